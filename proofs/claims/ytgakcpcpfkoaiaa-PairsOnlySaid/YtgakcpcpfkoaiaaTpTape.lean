/-
  A tape: what New, Num, Whole, Count, Text, Left and End answer, and what they leave.
-/
import Derived.Test.YtgakcpcpfkoaiaaTpCut
import Derived.Test.YtgakcpcpfkoaiaaOvTurn
import Derived.Test.YtgakcpcpfkoaiaaOvClone
namespace Go.Proofs.Ytgakcpcpfkoaiaa.Tp
open Go.ChangeShapes Go.WideShapes Go.ChangeAt Go.RowKit Go.Proofs.Ytgakcpcpfkoaiaa.Ov

/-- A tape in block b, on which the bytes l are left. -/
def IsT (w : World) (b : Nat) (l : List UInt8) : Prop := One w b 79 (.string (tx l))
/-- A tape of the call's own is answered. -/
def NewT (l : List UInt8) (w : World) (e : Ending) (w' : World) : Prop := ∃ b, e = .returned (.pointer (some ⟨b, 0, none⟩)) ∧ w.heap.size ≤ b ∧ IsT w' b l ∧ Below w.heap.size w w'
/-- A value is answered, and so much is left. -/
def LeftT (b : Nat) (v : Value) (l : List UInt8) (w : World) (e : Ending) (w' : World) : Prop := e = .returned v ∧ IsT w' b l ∧ Tur b w w'
theorem new_any (s : ByteArray) (w : World) (hs : s.size ≤ 281474976710656) :
    Calls Try.prog 26 #[.string s] w (NewT s.data.toList w) := by
  go_enter Try.func26, Try.ntmps26
  go_wp2_with (fail)
  refine (clone_any s _ hs).mono ?_
  rintro e w1 ⟨rfl, hb⟩
  have HB := Lib.hid hb; clear hb
  go_wp2_with (fail)
  go_ret
  refine ⟨_, rfl, HB.out.size, ?_, HB.out.alloc HB.out.size _⟩
  show One _ _ _ _
  rw [tx_of]
  exact One.made _ _ _
theorem ahead_any (b : Nat) (l : List UInt8) (w : World) (h : IsT w b l) :
    Calls Try.prog 44 #[.pointer (some ⟨b, 0, none⟩)] w fun e w' => e = .returned (.string (tx l)) ∧ w = w' := by
  have hc := One.cell h
  have H := Lib.hid h; clear h
  go_enter Try.func44, Try.ntmps44
  go_wp2_with (fail)
  go_ret
  exact ⟨rfl, rfl⟩
theorem ahead_nil (w : World) :
    Calls Try.prog 44 #[.pointer none] w fun e w' => e = .returned (.string ⟨#[]⟩) ∧ w = w' := by
  go_enter Try.func44, Try.ntmps44
  go_wp2_with (fail)
  go_ret
  exact ⟨rfl, rfl⟩
theorem left_any (b : Nat) (l : List UInt8) (w : World) (h : IsT w b l) :
    Calls Try.prog 47 #[.pointer (some ⟨b, 0, none⟩)] w fun e w' => e = .returned (.int .i64 (l.length : Int)) ∧ w = w' := by
  have H := Lib.hid h; clear h
  go_enter Try.func47, Try.ntmps47
  go_wp2_with (fail)
  refine (ahead_any b l _ H.out).mono ?_
  rintro e w' ⟨rfl, rfl⟩
  have HZ := Lib.hid (tx_size l)
  generalize tx l = s at HZ ⊢
  go_wp2_with (fail)
  go_ret
  exact ⟨ret_int (by rw [HZ.out]), rfl⟩
theorem left_nil (w : World) :
    Calls Try.prog 47 #[.pointer none] w fun e w' => e = .returned (.int .i64 0) ∧ w = w' := by
  go_enter Try.func47, Try.ntmps47
  go_wp2_with (fail)
  refine (ahead_nil _).mono ?_
  rintro e w' ⟨rfl, rfl⟩
  go_wp2_with (fail)
  go_ret
  exact ⟨rfl, rfl⟩
set_option maxHeartbeats 1000000 in
theorem count_ok (b : Nat) (l : List UInt8) (most : Int) {n : Nat} {t : List UInt8} (w : World) (h : IsT w b l) (hl : l.length ≤ 281474976710656) (hc : cc most l = (n, t, 0)) :
    Calls Try.prog 27 #[.pointer (some ⟨b, 0, none⟩), .int .i64 most] w (LeftT b (.tuple #[.int .i64 (n : Int), .int .i64 0]) t w) := by
  have H := Lib.hid h; clear h
  have HC : Hid (cc most (tx l).data.toList = (n, t, 0)) := by show _ = _; rw [tx_list]; exact hc
  clear hc
  go_enter Try.func27, Try.ntmps27
  go_wp2_with (fail)
  refine (ahead_any b l _ H.out).mono ?_
  rintro e w' ⟨rfl, rfl⟩
  go_wp2_with (fail)
  refine (cutCount_ok HC.out _ (by rw [tx_size]; exact hl)).mono ?_
  rintro e w1 ⟨rfl, hb⟩
  have H1 : Hid (IsT w1 b l) := One.old H.out hb
  have hc1 := One.cell H1.out
  have hf1 := One.thaw H1.out
  have HT : Hid (Tur b w w1) := Below.tur hb
  clear hb
  go_wp2_with (fail)
  go_ret2
  exact ⟨rfl, One.set H1.out _, HT.out.setCell _ _⟩
set_option maxHeartbeats 1000000 in
theorem count_no (b : Nat) (l : List UInt8) (most : Int) {k : Nat} (w : World) (h : IsT w b l) (hl : l.length ≤ 281474976710656) (hc : cc most l = (0, [], k)) (hk : 0 < k) :
    Calls Try.prog 27 #[.pointer (some ⟨b, 0, none⟩), .int .i64 most] w (LeftT b (.tuple #[.int .i64 0, .int .i64 (k : Int)]) l w) := by
  have H := Lib.hid h; clear h
  have HC : Hid (cc most (tx l).data.toList = (0, [], k)) := by show _ = _; rw [tx_list]; exact hc
  clear hc
  have h0 : ((k : Int) != 0) = true := by rw [bne_iff_ne]; omega
  go_enter Try.func27, Try.ntmps27
  go_wp2_with (fail)
  refine (ahead_any b l _ H.out).mono ?_
  rintro e w' ⟨rfl, rfl⟩
  go_wp2_with (fail)
  refine (cutCount_no HC.out _ (by rw [tx_size]; exact hl)).mono ?_
  rintro e w1 ⟨rfl, hb⟩
  have H1 : Hid (IsT w1 b l) := One.old H.out hb
  have HT : Hid (Tur b w w1) := Below.tur hb
  clear hb
  go_wp2_with (fail)
  go_ret2
  exact ⟨rfl, H1.out, HT.out⟩
theorem cc_num (l : List UInt8) : cc 9007199254740991 l = cn 0 0 l := by
  rcases cn_cases l with ⟨n, t, h, _, hn⟩ | ⟨k, h, hk, _⟩
  · rw [h]; exact cc_ok h (by omega)
  · rw [h]; exact cc_no _ h hk
theorem num_ok (b : Nat) (l : List UInt8) {n : Nat} {t : List UInt8} (w : World) (h : IsT w b l) (hl : l.length ≤ 281474976710656) (hc : cn 0 0 l = (n, t, 0)) :
    Calls Try.prog 64 #[.pointer (some ⟨b, 0, none⟩)] w (LeftT b (.tuple #[.int .i64 (n : Int), .int .i64 0]) t w) := by
  have H := Lib.hid h; clear h
  have HC := Lib.hid ((cc_num l).trans hc); clear hc
  go_enter Try.func64, Try.ntmps64
  go_wp2_with (fail)
  refine (count_ok b l _ _ H.out hl HC.out).mono ?_
  rintro e w1 ⟨rfl, h1, ht⟩
  have H1 := Lib.hid h1; have HT := Lib.hid ht; clear h1 ht
  go_wp2_with (fail)
  go_ret2
  exact ⟨rfl, H1.out, HT.out⟩
theorem num_no (b : Nat) (l : List UInt8) {k : Nat} (w : World) (h : IsT w b l) (hl : l.length ≤ 281474976710656) (hc : cn 0 0 l = (0, [], k)) (hk : 0 < k) :
    Calls Try.prog 64 #[.pointer (some ⟨b, 0, none⟩)] w (LeftT b (.tuple #[.int .i64 0, .int .i64 (k : Int)]) l w) := by
  have H := Lib.hid h; clear h
  have HC := Lib.hid ((cc_num l).trans hc); clear hc
  go_enter Try.func64, Try.ntmps64
  go_wp2_with (fail)
  refine (count_no b l _ _ H.out hl HC.out hk).mono ?_
  rintro e w1 ⟨rfl, h1, ht⟩
  have H1 := Lib.hid h1; have HT := Lib.hid ht; clear h1 ht
  go_wp2_with (fail)
  go_ret2
  exact ⟨rfl, H1.out, HT.out⟩
set_option maxHeartbeats 1000000 in
theorem whole_ok (b : Nat) (l : List UInt8) {n : Nat} {t : List UInt8} (w : World) (h : IsT w b l) (hl : l.length ≤ 281474976710656) (hc : cn 0 0 l = (n, t, 0)) :
    Calls Try.prog 68 #[.pointer (some ⟨b, 0, none⟩)] w (LeftT b (.tuple #[.int .i64 (sg n), .int .i64 0]) t w) := by
  have hn : n ≤ 9007199254740991 := by
    have := (cn_ok 0 0 l (by rw [hc])).2
    rw [hc] at this; exact this
  have H := Lib.hid h; clear h
  have HC := Lib.hid hc; clear hc
  by_cases h1 : n % 2 = 1
  · have HS : Hid (sg n = -(((n + 1) / 2 : Nat) : Int)) := if_pos h1
    have h2 : ((n : Int) % 2 == 1) = true := by rw [beq_iff_eq]; omega
    clear h1
    go_enter Try.func68, Try.ntmps68
    go_wp2_with (fail)
    refine (num_ok b l _ H.out hl HC.out).mono ?_
    rintro e w1 ⟨rfl, h1, ht⟩
    have H1 := Lib.hid h1; have HT := Lib.hid ht; clear h1 ht
    go_wp2_with (fail)
    go_ret2
    refine ⟨?_, H1.out, HT.out⟩
    rw [HS.out]
    show Ending.returned (.tuple #[.int .i64 _, .int .i64 0]) = _
    rw [Int.tdiv_eq_ediv_of_nonneg (by omega), IntWalk.wrap64_in _ (by omega)]
    rfl
  · have HS : Hid (sg n = ((n / 2 : Nat) : Int)) := if_neg h1
    have h2 : ((n : Int) % 2 == 1) = false := by rw [beq_eq_false_iff_ne]; omega
    clear h1
    go_enter Try.func68, Try.ntmps68
    go_wp2_with (fail)
    refine (num_ok b l _ H.out hl HC.out).mono ?_
    rintro e w1 ⟨rfl, h1, ht⟩
    have H1 := Lib.hid h1; have HT := Lib.hid ht; clear h1 ht
    go_wp2_with (fail)
    go_ret2
    refine ⟨?_, H1.out, HT.out⟩
    rw [HS.out]
    show Ending.returned (.tuple #[.int .i64 _, .int .i64 0]) = _
    rfl
set_option maxHeartbeats 1000000 in
theorem whole_no (b : Nat) (l : List UInt8) {k : Nat} (w : World) (h : IsT w b l) (hl : l.length ≤ 281474976710656) (hc : cn 0 0 l = (0, [], k)) (hk : 0 < k) :
    Calls Try.prog 68 #[.pointer (some ⟨b, 0, none⟩)] w (LeftT b (.tuple #[.int .i64 0, .int .i64 (k : Int)]) l w) := by
  have H := Lib.hid h; clear h
  have HC := Lib.hid hc; clear hc
  go_enter Try.func68, Try.ntmps68
  go_wp2_with (fail)
  refine (num_no b l _ H.out hl HC.out hk).mono ?_
  rintro e w1 ⟨rfl, h1, ht⟩
  have H1 := Lib.hid h1; have HT := Lib.hid ht; clear h1 ht
  go_wp2_with (fail)
  go_ret2
  exact ⟨rfl, H1.out, HT.out⟩
set_option maxHeartbeats 1000000 in
theorem text_ok (b : Nat) (l : List UInt8) (most : Int) {n : Nat} {t : List UInt8} (w : World) (h : IsT w b l) (hl : l.length ≤ 281474976710656) (hc : cc most l = (n, t, 0)) (hn : n ≤ t.length) :
    Calls Try.prog 45 #[.pointer (some ⟨b, 0, none⟩), .int .i64 most] w (LeftT b (.tuple #[.string (tx (t.take n)), .int .i64 0]) (t.drop n) w) := by
  have htl : t.length ≤ 281474976710656 := by
    rcases cc_cases most l with ⟨n', t', h', h1, _⟩ | ⟨k, h', h1, _⟩
    · rw [hc] at h'
      have : t = t' := congrArg (fun x => x.2.1) h'
      subst this; omega
    · rw [hc] at h'
      have : 0 = k := congrArg (fun x => x.2.2) h'
      omega
  have H := Lib.hid h; clear h
  have HC : Hid (cc most (tx l).data.toList = (n, t, 0)) := by show _ = _; rw [tx_list]; exact hc
  clear hc
  have hz : ((tx t).size : Int) = (t.length : Int) := by rw [tx_size]
  have h0 : ¬ ((t.length : Int) < (n : Int)) := by omega
  have HE : Hid ((tx t).extract n (tx t).size = tx (t.drop n)) := by show _ = _; rw [ext_drop, tx_list]
  have HF : Hid ((tx t).extract 0 n = tx (t.take n)) := by show _ = _; rw [ext_take, tx_list]
  go_enter Try.func45, Try.ntmps45
  go_wp2_with (fail)
  refine (ahead_any b l _ H.out).mono ?_
  rintro e w' ⟨rfl, rfl⟩
  go_wp2_with (fail)
  refine (cutCount_ok HC.out _ (by rw [tx_size]; exact hl)).mono ?_
  rintro e w1 ⟨rfl, hb⟩
  have H1 : Hid (IsT w1 b l) := One.old H.out hb
  have hc1 := One.cell H1.out
  have hf1 := One.thaw H1.out
  have HT : Hid (Tur b w w1) := Below.tur hb
  clear hb
  go_wp2_with (fail)
  rw [HE.out, HF.out]
  refine (clone_any (tx (t.take n)) _ (by rw [tx_size, List.length_take]; omega)).mono ?_
  rintro e w2 ⟨rfl, hb⟩
  have H2 : Hid (IsT w2 b (t.drop n)) := One.old (One.set H1.out _) hb
  have HT2 : Hid (Tur b w w2) := (HT.out.setCell _ _).trans (Below.tur hb)
  clear hb
  go_wp2_with (fail)
  go_ret2
  exact ⟨rfl, H2.out, HT2.out⟩
set_option maxHeartbeats 1000000 in
theorem text_short (b : Nat) (l : List UInt8) (most : Int) {n : Nat} {t : List UInt8} (w : World) (h : IsT w b l) (hl : l.length ≤ 281474976710656) (hc : cc most l = (n, t, 0)) (hn : t.length < n) :
    Calls Try.prog 45 #[.pointer (some ⟨b, 0, none⟩), .int .i64 most] w (LeftT b (.tuple #[.string ⟨#[]⟩, .int .i64 2]) l w) := by
  have H := Lib.hid h; clear h
  have HC : Hid (cc most (tx l).data.toList = (n, t, 0)) := by show _ = _; rw [tx_list]; exact hc
  clear hc
  have hz : ((tx t).size : Int) = (t.length : Int) := by rw [tx_size]
  go_enter Try.func45, Try.ntmps45
  go_wp2_with (fail)
  refine (ahead_any b l _ H.out).mono ?_
  rintro e w' ⟨rfl, rfl⟩
  go_wp2_with (fail)
  refine (cutCount_ok HC.out _ (by rw [tx_size]; exact hl)).mono ?_
  rintro e w1 ⟨rfl, hb⟩
  have H1 : Hid (IsT w1 b l) := One.old H.out hb
  have HT : Hid (Tur b w w1) := Below.tur hb
  clear hb
  go_wp2_with (fail)
  go_ret2
  exact ⟨rfl, H1.out, HT.out⟩
set_option maxHeartbeats 1000000 in
theorem text_no (b : Nat) (l : List UInt8) (most : Int) {k : Nat} (w : World) (h : IsT w b l) (hl : l.length ≤ 281474976710656) (hc : cc most l = (0, [], k)) (hk : 0 < k) :
    Calls Try.prog 45 #[.pointer (some ⟨b, 0, none⟩), .int .i64 most] w (LeftT b (.tuple #[.string ⟨#[]⟩, .int .i64 (k : Int)]) l w) := by
  have H := Lib.hid h; clear h
  have HC : Hid (cc most (tx l).data.toList = (0, [], k)) := by show _ = _; rw [tx_list]; exact hc
  clear hc
  have h0 : ((k : Int) != 0) = true := by rw [bne_iff_ne]; omega
  go_enter Try.func45, Try.ntmps45
  go_wp2_with (fail)
  refine (ahead_any b l _ H.out).mono ?_
  rintro e w' ⟨rfl, rfl⟩
  go_wp2_with (fail)
  refine (cutCount_no HC.out _ (by rw [tx_size]; exact hl)).mono ?_
  rintro e w1 ⟨rfl, hb⟩
  have H1 : Hid (IsT w1 b l) := One.old H.out hb
  have HT : Hid (Tur b w w1) := Below.tur hb
  clear hb
  go_wp2_with (fail)
  go_ret2
  exact ⟨rfl, H1.out, HT.out⟩
/-! ### nil is as a tape that has ended -/
theorem count_nil (most : Int) (w : World) :
    Calls Try.prog 27 #[.pointer none, .int .i64 most] w fun e w' => e = .returned (.tuple #[.int .i64 0, .int .i64 2]) ∧ Below w.heap.size w w' := by
  go_enter Try.func27, Try.ntmps27
  go_wp2_with (fail)
  refine (ahead_nil _).mono ?_
  rintro e w' ⟨rfl, rfl⟩
  go_wp2_with (fail)
  refine (cutCount_no (k := 2) rfl _ (by decide)).mono ?_
  rintro e w1 ⟨rfl, hb⟩
  have HB := Lib.hid hb; clear hb
  go_wp2_with (fail)
  go_ret2
  exact ⟨rfl, HB.out⟩
theorem text_nil (most : Int) (w : World) :
    Calls Try.prog 45 #[.pointer none, .int .i64 most] w fun e w' => e = .returned (.tuple #[.string ⟨#[]⟩, .int .i64 2]) ∧ Below w.heap.size w w' := by
  go_enter Try.func45, Try.ntmps45
  go_wp2_with (fail)
  refine (ahead_nil _).mono ?_
  rintro e w' ⟨rfl, rfl⟩
  go_wp2_with (fail)
  refine (cutCount_no (k := 2) rfl _ (by decide)).mono ?_
  rintro e w1 ⟨rfl, hb⟩
  have HB := Lib.hid hb; clear hb
  go_wp2_with (fail)
  go_ret2
  exact ⟨rfl, HB.out⟩
theorem num_nil (w : World) :
    Calls Try.prog 64 #[.pointer none] w fun e w' => e = .returned (.tuple #[.int .i64 0, .int .i64 2]) ∧ Below w.heap.size w w' := by
  go_enter Try.func64, Try.ntmps64
  go_wp2_with (fail)
  refine (count_nil _ _).mono ?_
  rintro e w1 ⟨rfl, hb⟩
  have HB := Lib.hid hb; clear hb
  go_wp2_with (fail)
  go_ret2
  exact ⟨rfl, HB.out⟩
theorem whole_nil (w : World) :
    Calls Try.prog 68 #[.pointer none] w fun e w' => e = .returned (.tuple #[.int .i64 0, .int .i64 2]) ∧ Below w.heap.size w w' := by
  go_enter Try.func68, Try.ntmps68
  go_wp2_with (fail)
  refine (num_nil _).mono ?_
  rintro e w1 ⟨rfl, hb⟩
  have HB := Lib.hid hb; clear hb
  go_wp2_with (fail)
  go_ret2
  exact ⟨rfl, HB.out⟩
end Go.Proofs.Ytgakcpcpfkoaiaa.Tp
