/-
  A text of this claim: JoRefW.
-/
import Derived.Test.YtimllihegnokeaaGreatDoorQ7
import Derived.Test.YtimllihegnokeaaGreatDoorQJoRefR
import Derived.Test.YtimllihegnokeaaGreatDoorQ4
import Derived.Deep.Cut
import Derived.Deep.CutRange
namespace Go.Proofs.YtimllihegnokeaaGreatDoor.Jo
open Go.ChangeShapes Go.WideShapes Go.ChangeAt Go.RowKit Ov Va Ex Ev
theorem ex_of_Rt {l : List No} (h : Rt l = true) : ex 25 l = some [] ∧ l.length ≤ 1000 := by
 rw [Rt_val] at h
 simp only [Bool.and_eq_true, decide_eq_true_eq] at h
 exact ⟨h.2, by omega⟩
theorem wt_len {l : List No} (h : Rt l = true) : (wt 25 l).length ≤ 4920000 := by
 rw [Rt_val] at h
 simp only [Bool.and_eq_true, decide_eq_true_eq] at h
 have := wt_max _ _ _ h.2
 simp at this
 omega
theorem rt_parts {j : Jb} (h : jr j = 0) : Rt j.m = true ∧ (j.b.length ≠ 0 → Rt j.b = true) ∧ (j.r.length ≠ 0 → Rt j.r = true) ∧ (j.fd.isEmpty = true → j.r.length ≠ 0) := by
 obtain ⟨_, _, h3, _, _⟩ := jr_zero h
 rw [Bool.and_eq_true] at h3
 obtain ⟨h3, h4⟩ := h3
 unfold exOk at h3
 simp only [Bool.and_eq_true, Bool.or_eq_true] at h3
 obtain ⟨⟨hm, hb⟩, hr⟩ := h3
 refine ⟨hm, fun hn => ?_, fun hn => ?_, fun hf hn => ?_⟩
 · rcases hb with hb | hb
   · exact absurd (by rw [List.isEmpty_iff.1 hb]; rfl) hn
   · exact hb
 · rcases hr with hb | hb
   · exact absurd (by rw [List.isEmpty_iff.1 hb]; rfl) hn
   · exact hb
 · unfold fdOk at h4
   rw [List.eq_nil_of_length_eq_zero hn, List.isEmpty_iff.1 hf] at h4
   exact absurd h4 (by decide)
theorem rw0 {l : List No} {A : Option Addr} {c : Nat} {w : World} (h : Rt l = true) (hn : Nds w A l) : Calls Tryz.prog 46 #[.slice A l.length c, .int .i64 0] w (Gives (.string (tx (wt 25 l))) w) :=
 xwrite_any 25 l [] A c 0 w hn (ex_of_Rt h).1 (Nat.le_refl _) (ex_of_Rt h).2
set_option maxHeartbeats 8000000 in
set_option maxRecDepth 100000 in
theorem rjwrite_any (j : Jb) (A1 : Option Addr) (c1 : Nat) (A2 : Option Addr) (c2 : Nat) (A3 : Option Addr) (c3 : Nat) (w : World) (hj : JL w j A1 A2 A3) (h0 : jr j = 0) : Calls Tryz.prog 18 #[.agg #[.string (tx j.nm), .int .i64 j.t, .int .i64 j.p, .int .i64 j.k, .int .i64 j.n, .int .i64 j.f, .slice A1 j.m.length c1, .slice A2 j.b.length c2, .slice A3 j.r.length c3, .string (tx j.fd), .bool j.cb]] w (Gives (.string (tx (f9 j))) w) := by
 have HJL := Lib.hid hj
 have HL := lens h0
 have HR := Lib.hid (rt_parts h0)
 have hnum := numOk_in (jr_zero h0).2.1
 have Ln := Lib.hid HL.n
 have Lt := Lib.hid HL.t
 have Lp := Lib.hid HL.p
 have Lk := Lib.hid HL.k
 have Lm := Lib.hid HL.m
 have Lf := Lib.hid HL.f
 have LF := Lib.hid HL.fd
 have LM := Lib.hid (wt_len HR.out.1)
 have HDt := Lib.hid (fun w1 : World => rdec_any j.t w1 (by omega))
 have HDp := Lib.hid (fun w1 : World => rdec_any j.p w1 (by omega))
 have HDk := Lib.hid (fun w1 : World => rdec_any j.k w1 (by omega))
 have HDn := Lib.hid (fun w1 : World => rdec_any j.n w1 (by omega))
 have HDf := Lib.hid (fun w1 : World => rdec_any j.f w1 (by omega))
 clear hj h0 hnum HL
 obtain ⟨y1, hy1⟩ : ∃ y : List UInt8, [106, 111, 98, 32] ++ j.nm = y := ⟨_, rfl⟩
 have Ny1 : Hid (y1.length ≤ 20) := Lib.hid (by
  have := Ln.out; rw [← hy1, List.length_append]
  try simp only [List.length_cons, List.length_nil]
  omega)
 have xy1 : (⟨#[106, 111, 98, 32]⟩ : ByteArray) ++ tx (j.nm) = tx y1 := by rw [← hy1, ← tx_append] <;> rfl
 have zy1 : ¬ 4 + (tx (j.nm)).size > 9223372036854775807 := by
  simp only [tx_size]
  have := Ln.out; omega
 have Hy1 := Lib.hid hy1; clear hy1
 obtain ⟨y2, hy2⟩ : ∃ y : List UInt8, y1 ++ [10, 116, 97, 115, 107, 115, 32] = y := ⟨_, rfl⟩
 have Ny2 : Hid (y2.length ≤ 27) := Lib.hid (by
  have := Ny1.out; rw [← hy2, List.length_append]
  try simp only [List.length_cons, List.length_nil]
  omega)
 have xy2 : tx y1 ++ (⟨#[10, 116, 97, 115, 107, 115, 32]⟩ : ByteArray) = tx y2 := by rw [← hy2, ← tx_append] <;> rfl
 have zy2 : ¬ (tx y1).size + 7 > 9223372036854775807 := by
  simp only [tx_size]
  have := Ny1.out; omega
 have Hy2 := Lib.hid hy2; clear hy2
 obtain ⟨y3, hy3⟩ : ∃ y : List UInt8, y2 ++ Lib.itoa j.t = y := ⟨_, rfl⟩
 have Ny3 : Hid (y3.length ≤ 48) := Lib.hid (by
  have := Ny2.out; have := Lt.out; rw [← hy3, List.length_append]
  try simp only [List.length_cons, List.length_nil]
  omega)
 have xy3 : tx y2 ++ tx (Lib.itoa j.t) = tx y3 := by rw [← hy3, ← tx_append] <;> rfl
 have zy3 : ¬ (tx y2).size + (tx (Lib.itoa j.t)).size > 9223372036854775807 := by
  simp only [tx_size]
  have := Ny2.out; have := Lt.out; omega
 have Hy3 := Lib.hid hy3; clear hy3
 obtain ⟨y4, hy4⟩ : ∃ y : List UInt8, y3 ++ [10, 112, 97, 114, 116, 115, 32] = y := ⟨_, rfl⟩
 have Ny4 : Hid (y4.length ≤ 55) := Lib.hid (by
  have := Ny3.out; rw [← hy4, List.length_append]
  try simp only [List.length_cons, List.length_nil]
  omega)
 have xy4 : tx y3 ++ (⟨#[10, 112, 97, 114, 116, 115, 32]⟩ : ByteArray) = tx y4 := by rw [← hy4, ← tx_append] <;> rfl
 have zy4 : ¬ (tx y3).size + 7 > 9223372036854775807 := by
  simp only [tx_size]
  have := Ny3.out; omega
 have Hy4 := Lib.hid hy4; clear hy4
 obtain ⟨y5, hy5⟩ : ∃ y : List UInt8, y4 ++ Lib.itoa j.p = y := ⟨_, rfl⟩
 have Ny5 : Hid (y5.length ≤ 76) := Lib.hid (by
  have := Ny4.out; have := Lp.out; rw [← hy5, List.length_append]
  try simp only [List.length_cons, List.length_nil]
  omega)
 have xy5 : tx y4 ++ tx (Lib.itoa j.p) = tx y5 := by rw [← hy5, ← tx_append] <;> rfl
 have zy5 : ¬ (tx y4).size + (tx (Lib.itoa j.p)).size > 9223372036854775807 := by
  simp only [tx_size]
  have := Ny4.out; have := Lp.out; omega
 have Hy5 := Lib.hid hy5; clear hy5
 obtain ⟨y6, hy6⟩ : ∃ y : List UInt8, y5 ++ [10, 99, 111, 100, 101, 32] = y := ⟨_, rfl⟩
 have Ny6 : Hid (y6.length ≤ 82) := Lib.hid (by
  have := Ny5.out; rw [← hy6, List.length_append]
  try simp only [List.length_cons, List.length_nil]
  omega)
 have xy6 : tx y5 ++ (⟨#[10, 99, 111, 100, 101, 32]⟩ : ByteArray) = tx y6 := by rw [← hy6, ← tx_append] <;> rfl
 have zy6 : ¬ (tx y5).size + 6 > 9223372036854775807 := by
  simp only [tx_size]
  have := Ny5.out; omega
 have Hy6 := Lib.hid hy6; clear hy6
 obtain ⟨y7, hy7⟩ : ∃ y : List UInt8, y6 ++ Lib.itoa j.k = y := ⟨_, rfl⟩
 have Ny7 : Hid (y7.length ≤ 103) := Lib.hid (by
  have := Ny6.out; have := Lk.out; rw [← hy7, List.length_append]
  try simp only [List.length_cons, List.length_nil]
  omega)
 have xy7 : tx y6 ++ tx (Lib.itoa j.k) = tx y7 := by rw [← hy7, ← tx_append] <;> rfl
 have zy7 : ¬ (tx y6).size + (tx (Lib.itoa j.k)).size > 9223372036854775807 := by
  simp only [tx_size]
  have := Ny6.out; have := Lk.out; omega
 have Hy7 := Lib.hid hy7; clear hy7
 obtain ⟨y8, hy8⟩ : ∃ y : List UInt8, y7 ++ [32] = y := ⟨_, rfl⟩
 have Ny8 : Hid (y8.length ≤ 104) := Lib.hid (by
  have := Ny7.out; rw [← hy8, List.length_append]
  try simp only [List.length_cons, List.length_nil]
  omega)
 have xy8 : tx y7 ++ (⟨#[32]⟩ : ByteArray) = tx y8 := by rw [← hy8, ← tx_append] <;> rfl
 have zy8 : ¬ (tx y7).size + 1 > 9223372036854775807 := by
  simp only [tx_size]
  have := Ny7.out; omega
 have Hy8 := Lib.hid hy8; clear hy8
 obtain ⟨y9, hy9⟩ : ∃ y : List UInt8, y8 ++ Lib.itoa j.n = y := ⟨_, rfl⟩
 have Ny9 : Hid (y9.length ≤ 125) := Lib.hid (by
  have := Ny8.out; have := Lm.out; rw [← hy9, List.length_append]
  try simp only [List.length_cons, List.length_nil]
  omega)
 have xy9 : tx y8 ++ tx (Lib.itoa j.n) = tx y9 := by rw [← hy9, ← tx_append] <;> rfl
 have zy9 : ¬ (tx y8).size + (tx (Lib.itoa j.n)).size > 9223372036854775807 := by
  simp only [tx_size]
  have := Ny8.out; have := Lm.out; omega
 have Hy9 := Lib.hid hy9; clear hy9
 obtain ⟨y10, hy10⟩ : ∃ y : List UInt8, y9 ++ [10, 102, 117, 101, 108, 32] = y := ⟨_, rfl⟩
 have Ny10 : Hid (y10.length ≤ 131) := Lib.hid (by
  have := Ny9.out; rw [← hy10, List.length_append]
  try simp only [List.length_cons, List.length_nil]
  omega)
 have xy10 : tx y9 ++ (⟨#[10, 102, 117, 101, 108, 32]⟩ : ByteArray) = tx y10 := by rw [← hy10, ← tx_append] <;> rfl
 have zy10 : ¬ (tx y9).size + 6 > 9223372036854775807 := by
  simp only [tx_size]
  have := Ny9.out; omega
 have Hy10 := Lib.hid hy10; clear hy10
 obtain ⟨y11, hy11⟩ : ∃ y : List UInt8, y10 ++ Lib.itoa j.f = y := ⟨_, rfl⟩
 have Ny11 : Hid (y11.length ≤ 152) := Lib.hid (by
  have := Ny10.out; have := Lf.out; rw [← hy11, List.length_append]
  try simp only [List.length_cons, List.length_nil]
  omega)
 have xy11 : tx y10 ++ tx (Lib.itoa j.f) = tx y11 := by rw [← hy11, ← tx_append] <;> rfl
 have zy11 : ¬ (tx y10).size + (tx (Lib.itoa j.f)).size > 9223372036854775807 := by
  simp only [tx_size]
  have := Ny10.out; have := Lf.out; omega
 have Hy11 := Lib.hid hy11; clear hy11
 obtain ⟨y12, hy12⟩ : ∃ y : List UInt8, y11 ++ [10, 109, 97, 112, 32] = y := ⟨_, rfl⟩
 have Ny12 : Hid (y12.length ≤ 157) := Lib.hid (by
  have := Ny11.out; rw [← hy12, List.length_append]
  try simp only [List.length_cons, List.length_nil]
  omega)
 have xy12 : tx y11 ++ (⟨#[10, 109, 97, 112, 32]⟩ : ByteArray) = tx y12 := by rw [← hy12, ← tx_append] <;> rfl
 have zy12 : ¬ (tx y11).size + 5 > 9223372036854775807 := by
  simp only [tx_size]
  have := Ny11.out; omega
 have Hy12 := Lib.hid hy12; clear hy12
 obtain ⟨y13, hy13⟩ : ∃ y : List UInt8, y12 ++ wt 25 j.m = y := ⟨_, rfl⟩
 have Ny13 : Hid (y13.length ≤ 4920157) := Lib.hid (by
  have := Ny12.out; have := LM.out; rw [← hy13, List.length_append]
  try simp only [List.length_cons, List.length_nil]
  omega)
 have xy13 : tx y12 ++ tx (wt 25 j.m) = tx y13 := by rw [← hy13, ← tx_append] <;> rfl
 have zy13 : ¬ (tx y12).size + (tx (wt 25 j.m)).size > 9223372036854775807 := by
  simp only [tx_size]
  have := Ny12.out; have := LM.out; omega
 have Hy13 := Lib.hid hy13; clear hy13
 obtain ⟨y14, hy14⟩ : ∃ y : List UInt8, y13 ++ [10] = y := ⟨_, rfl⟩
 have Ny14 : Hid (y14.length ≤ 4920158) := Lib.hid (by
  have := Ny13.out; rw [← hy14, List.length_append]
  try simp only [List.length_cons, List.length_nil]
  omega)
 have xy14 : tx y13 ++ (⟨#[10]⟩ : ByteArray) = tx y14 := by rw [← hy14, ← tx_append] <;> rfl
 have zy14 : ¬ (tx y13).size + 1 > 9223372036854775807 := by
  simp only [tx_size]
  have := Ny13.out; omega
 have Hy14 := Lib.hid hy14; clear hy14
 have HF6 : Hid (y14 = f6 j) := Lib.hid (by
  rw [← Hy14.out, ← Hy13.out, ← Hy12.out, ← Hy11.out, ← Hy10.out, ← Hy9.out, ← Hy8.out, ← Hy7.out, ← Hy6.out, ← Hy5.out, ← Hy4.out, ← Hy3.out, ← Hy2.out, ← Hy1.out]
  unfold f6 w5 w4 w3 w2 w1 ln
  simp)
 clear Hy1 Hy2 Hy3 Hy4 Hy5 Hy6 Hy7 Hy8 Hy9 Hy10 Hy11 Hy12 Hy13 Hy14
 clear Ny1 Ny2 Ny3 Ny4 Ny5 Ny6 Ny7 Ny8 Ny9 Ny10 Ny11 Ny12 Ny13
 have HJ := Lib.hid (made11 w 24 (.string (tx j.nm)) (.int .i64 j.t) (.int .i64 j.p) (.int .i64 j.k) (.int .i64 j.n) (.int .i64 j.f) (.slice A1 j.m.length c1) (.slice A2 j.b.length c2) (.slice A3 j.r.length c3) (.string (tx j.fd)) (.bool j.cb))
 have HB := Lib.hid (box1 w (.cells #[.string (tx j.nm), .int .i64 j.t, .int .i64 j.p, .int .i64 j.k, .int .i64 j.n, .int .i64 j.f, .slice A1 j.m.length c1, .slice A2 j.b.length c2, .slice A3 j.r.length c3, .string (tx j.fd), .bool j.cb] 24))
 go_enter Tryz.func18, Tryz.ntmps18
 go_upto_region 1 with (fail)
 generalize w.alloc (.cells #[.string (tx j.nm), .int .i64 j.t, .int .i64 j.p, .int .i64 j.k, .int .i64 j.n, .int .i64 j.f, .slice A1 j.m.length c1, .slice A2 j.b.length c2, .slice A3 j.r.length c3, .string (tx j.fd), .bool j.cb] 24) = v at *
 have k0 := fun r : Over v => (HJ.out.over r).c 0 _ rfl
 have k1 := fun r : Over v => (HJ.out.over r).c 1 _ rfl
 have k2 := fun r : Over v => (HJ.out.over r).c 2 _ rfl
 have k3 := fun r : Over v => (HJ.out.over r).c 3 _ rfl
 have k4 := fun r : Over v => (HJ.out.over r).c 4 _ rfl
 have k5 := fun r : Over v => (HJ.out.over r).c 5 _ rfl
 have k6 := fun r : Over v => (HJ.out.over r).c 6 _ rfl
 have HM : Hid (∀ r : Over v, Calls Tryz.prog 46 #[.slice A1 j.m.length c1, .int .i64 0] r.val (Gives (.string (tx (wt 25 j.m))) r.val)) := Lib.hid fun r => rw0 HR.out.1 (HJL.out.m.next (Below.next HB.out r.property))
 refine wp_over (by kernel_rfl) (by kernel_rfl) ?_
 repeat (go_big_quiet_step (first | fail | with_reducible exact over_gives _ (HDt.out _) | with_reducible exact over_gives _ (HDp.out _) | with_reducible exact over_gives _ (HDk.out _) | with_reducible exact over_gives _ (HDn.out _) | with_reducible exact over_gives _ (HDf.out _) | with_reducible exact over_gives _ (HM.out _)))
 refine wpQuiet_nil ?_
 rintro wq ⟨⟨w2, hb⟩, rfl⟩
 replace HJ := Lib.hid (HJ.out.next hb); replace HB := Lib.hid (Below.next HB.out hb)
 clear hb HM k0 k1 k2 k3 k4 k5 k6 HDt HDp HDk HDn HDf
 clear xy1 zy1 xy2 zy2 xy3 zy3 xy4 zy4 xy5 zy5 xy6 zy6 xy7 zy7 xy8 zy8 xy9 zy9 xy10 zy10 xy11 zy11 xy12 zy12 xy13 zy13 xy14 zy14
 clear Ln Lt Lp Lk Lm Lf LM
 have d7 := HJ.out.c 7 _ rfl
 go_upto_if 41 with (fail)
 clear d7
 go_cut [3] from 41 to 48 (fun x3 wx => ∃ y : List UInt8, x3 = .string (tx y) ∧ y = f7 j ∧ y.length ≤ 9840200 ∧ Blk wx w.heap.size [.string (tx j.nm), .int .i64 j.t, .int .i64 j.p, .int .i64 j.k, .int .i64 j.n, .int .i64 j.f, .slice A1 j.m.length c1, .slice A2 j.b.length c2, .slice A3 j.r.length c3, .string (tx j.fd), .bool j.cb] ∧ Below w.heap.size w wx)
 case first =>
  by_cases hb0 : j.b.length = 0
  · have h1 : decide (0 < j.b.length) = false := decide_eq_false (by omega)
    have HE : Hid (y14 = f7 j) := Lib.hid (by unfold f7; rw [if_pos hb0]; exact HF6.out)
    clear hb0
    rw [h1]
    go_wp2_with (fail)
    go_meet
    exact ⟨y14, rfl, HE.out, by have := Ny14.out; omega, HJ.out, HB.out⟩
  · have h1 : decide (0 < j.b.length) = true := decide_eq_true (by omega)
    have HRX := Lib.hid (HR.out.2.1 hb0)
    have LX := Lib.hid (wt_len HRX.out)
    obtain ⟨b1, hb1⟩ : ∃ y : List UInt8, y14 ++ [98, 121, 32] = y := ⟨_, rfl⟩
    have Nb1 : Hid (b1.length ≤ 4920161) := Lib.hid (by
     have := Ny14.out; rw [← hb1, List.length_append]
     try simp only [List.length_cons, List.length_nil]
     omega)
    have xb1 : tx y14 ++ (⟨#[98, 121, 32]⟩ : ByteArray) = tx b1 := by rw [← hb1, ← tx_append] <;> rfl
    have zb1 : ¬ (tx y14).size + 3 > 9223372036854775807 := by
     simp only [tx_size]
     have := Ny14.out; omega
    have Hb1 := Lib.hid hb1; clear hb1
    obtain ⟨b2, hb2⟩ : ∃ y : List UInt8, b1 ++ wt 25 j.b = y := ⟨_, rfl⟩
    have Nb2 : Hid (b2.length ≤ 9840161) := Lib.hid (by
     have := Nb1.out; have := LX.out; rw [← hb2, List.length_append]
     try simp only [List.length_cons, List.length_nil]
     omega)
    have xb2 : tx b1 ++ tx (wt 25 j.b) = tx b2 := by rw [← hb2, ← tx_append] <;> rfl
    have zb2 : ¬ (tx b1).size + (tx (wt 25 j.b)).size > 9223372036854775807 := by
     simp only [tx_size]
     have := Nb1.out; have := LX.out; omega
    have Hb2 := Lib.hid hb2; clear hb2
    obtain ⟨b3, hb3⟩ : ∃ y : List UInt8, b2 ++ [10] = y := ⟨_, rfl⟩
    have Nb3 : Hid (b3.length ≤ 9840162) := Lib.hid (by
     have := Nb2.out; rw [← hb3, List.length_append]
     try simp only [List.length_cons, List.length_nil]
     omega)
    have xb3 : tx b2 ++ (⟨#[10]⟩ : ByteArray) = tx b3 := by rw [← hb3, ← tx_append] <;> rfl
    have zb3 : ¬ (tx b2).size + 1 > 9223372036854775807 := by
     simp only [tx_size]
     have := Nb2.out; omega
    have Hb3 := Lib.hid hb3; clear hb3
    have HE : Hid (b3 = f7 j) := Lib.hid (by unfold f7; rw [if_neg hb0, ← Hb3.out, ← Hb2.out, ← Hb1.out, HF6.out]; unfold ln; simp)
    clear hb0 Hb1 Hb2 Hb3
    have d7 := HJ.out.c 7 _ rfl
    rw [h1]
    go_wp2_with (fail)
    clear d7
    refine (rw0 HRX.out (HJL.out.b.next HB.out)).mono ?_
    rintro e w3 ⟨rfl, hb⟩
    replace HJ := Lib.hid (HJ.out.next hb); replace HB := Lib.hid (Below.next HB.out hb); clear hb
    go_wp2_with (fail)
    go_meet
    exact ⟨b3, rfl, HE.out, by have := Nb3.out; omega, HJ.out, HB.out⟩
 case rest =>
  obtain ⟨y15, rfl, hy, hn, hjc, hbc⟩ := hcut
  replace HJ := Lib.hid hjc; replace HB := Lib.hid hbc
  have HF7 := Lib.hid hy; have Ny15 := Lib.hid hn
  clear hjc hbc hy hn HF6 Ny14
  have d9 := HJ.out.c 9 _ rfl
  go_upto_if 51 with (fail)
  clear d9
  go_cut [3] from 51 to 64 (fun x3 wx => ∃ y : List UInt8, x3 = .string (tx y) ∧ y = f8 j ∧ y.length ≤ 14760300 ∧ Blk wx w.heap.size [.string (tx j.nm), .int .i64 j.t, .int .i64 j.p, .int .i64 j.k, .int .i64 j.n, .int .i64 j.f, .slice A1 j.m.length c1, .slice A2 j.b.length c2, .slice A3 j.r.length c3, .string (tx j.fd), .bool j.cb] ∧ Below w.heap.size w wx)
  case first =>
   by_cases hf0 : j.fd.isEmpty = true
   · have h1 : (tx j.fd).toList.isEmpty = true := by rw [empty_tx]; exact hf0
     have HRX := Lib.hid (HR.out.2.2.1 (HR.out.2.2.2 hf0))
     have LX := Lib.hid (wt_len HRX.out)
     obtain ⟨r1, hr1⟩ : ∃ y : List UInt8, y15 ++ [114, 101, 100, 117, 99, 101, 32] = y := ⟨_, rfl⟩
     have Nr1 : Hid (r1.length ≤ 9840207) := Lib.hid (by
      have := Ny15.out; rw [← hr1, List.length_append]
      try simp only [List.length_cons, List.length_nil]
      omega)
     have xr1 : tx y15 ++ (⟨#[114, 101, 100, 117, 99, 101, 32]⟩ : ByteArray) = tx r1 := by rw [← hr1, ← tx_append] <;> rfl
     have zr1 : ¬ (tx y15).size + 7 > 9223372036854775807 := by
      simp only [tx_size]
      have := Ny15.out; omega
     have Hr1 := Lib.hid hr1; clear hr1
     obtain ⟨r2, hr2⟩ : ∃ y : List UInt8, r1 ++ wt 25 j.r = y := ⟨_, rfl⟩
     have Nr2 : Hid (r2.length ≤ 14760207) := Lib.hid (by
      have := Nr1.out; have := LX.out; rw [← hr2, List.length_append]
      try simp only [List.length_cons, List.length_nil]
      omega)
     have xr2 : tx r1 ++ tx (wt 25 j.r) = tx r2 := by rw [← hr2, ← tx_append] <;> rfl
     have zr2 : ¬ (tx r1).size + (tx (wt 25 j.r)).size > 9223372036854775807 := by
      simp only [tx_size]
      have := Nr1.out; have := LX.out; omega
     have Hr2 := Lib.hid hr2; clear hr2
     obtain ⟨r3, hr3⟩ : ∃ y : List UInt8, r2 ++ [10] = y := ⟨_, rfl⟩
     have Nr3 : Hid (r3.length ≤ 14760208) := Lib.hid (by
      have := Nr2.out; rw [← hr3, List.length_append]
      try simp only [List.length_cons, List.length_nil]
      omega)
     have xr3 : tx r2 ++ (⟨#[10]⟩ : ByteArray) = tx r3 := by rw [← hr3, ← tx_append] <;> rfl
     have zr3 : ¬ (tx r2).size + 1 > 9223372036854775807 := by
      simp only [tx_size]
      have := Nr2.out; omega
     have Hr3 := Lib.hid hr3; clear hr3
     have HE : Hid (r3 = f8 j) := Lib.hid (by unfold f8; rw [if_pos hf0, ← Hr3.out, ← Hr2.out, ← Hr1.out, HF7.out]; unfold ln; simp)
     clear hf0 Hr1 Hr2 Hr3
     have d8 := HJ.out.c 8 _ rfl
     rw [h1]
     go_wp2_with (fail)
     clear d8
     refine (rw0 HRX.out (HJL.out.r.next HB.out)).mono ?_
     rintro e w4 ⟨rfl, hb⟩
     replace HJ := Lib.hid (HJ.out.next hb); replace HB := Lib.hid (Below.next HB.out hb); clear hb
     go_wp2_with (fail)
     go_meet
     exact ⟨r3, rfl, HE.out, by have := Nr3.out; omega, HJ.out, HB.out⟩
   · have h1 : (tx j.fd).toList.isEmpty = false := by rw [empty_tx]; exact Bool.eq_false_iff.2 hf0
     obtain ⟨f1, hf1⟩ : ∃ y : List UInt8, y15 ++ [102, 111, 108, 100, 32] = y := ⟨_, rfl⟩
     have Nf1 : Hid (f1.length ≤ 9840205) := Lib.hid (by
      have := Ny15.out; rw [← hf1, List.length_append]
      try simp only [List.length_cons, List.length_nil]
      omega)
     have xf1 : tx y15 ++ (⟨#[102, 111, 108, 100, 32]⟩ : ByteArray) = tx f1 := by rw [← hf1, ← tx_append] <;> rfl
     have zf1 : ¬ (tx y15).size + 5 > 9223372036854775807 := by
      simp only [tx_size]
      have := Ny15.out; omega
     have Hf1 := Lib.hid hf1; clear hf1
     obtain ⟨f2, hf2⟩ : ∃ y : List UInt8, f1 ++ j.fd = y := ⟨_, rfl⟩
     have Nf2 : Hid (f2.length ≤ 9840208) := Lib.hid (by
      have := Nf1.out; have := LF.out; rw [← hf2, List.length_append]
      try simp only [List.length_cons, List.length_nil]
      omega)
     have xf2 : tx f1 ++ tx (j.fd) = tx f2 := by rw [← hf2, ← tx_append] <;> rfl
     have zf2 : ¬ (tx f1).size + (tx (j.fd)).size > 9223372036854775807 := by
      simp only [tx_size]
      have := Nf1.out; have := LF.out; omega
     have Hf2 := Lib.hid hf2; clear hf2
     obtain ⟨f3, hf3⟩ : ∃ y : List UInt8, f2 ++ [10] = y := ⟨_, rfl⟩
     have Nf3 : Hid (f3.length ≤ 9840209) := Lib.hid (by
      have := Nf2.out; rw [← hf3, List.length_append]
      try simp only [List.length_cons, List.length_nil]
      omega)
     have xf3 : tx f2 ++ (⟨#[10]⟩ : ByteArray) = tx f3 := by rw [← hf3, ← tx_append] <;> rfl
     have zf3 : ¬ (tx f2).size + 1 > 9223372036854775807 := by
      simp only [tx_size]
      have := Nf2.out; omega
     have Hf3 := Lib.hid hf3; clear hf3
     have HE : Hid (f3 = f8 j) := Lib.hid (by unfold f8; rw [if_neg hf0, ← Hf3.out, ← Hf2.out, ← Hf1.out, HF7.out]; unfold ln; simp)
     clear hf0 Hf1 Hf2 Hf3
     have d9 := HJ.out.c 9 _ rfl
     rw [h1]
     go_wp2_with (fail)
     go_meet
     exact ⟨f3, rfl, HE.out, by have := Nf3.out; omega, HJ.out, HB.out⟩
  case rest =>
   obtain ⟨y16, rfl, hy, hn, hjc, hbc⟩ := hcut
   replace HJ := Lib.hid hjc; replace HB := Lib.hid hbc
   have HF8 := Lib.hid hy; have Ny16 := Lib.hid hn
   clear hjc hbc hy hn HF7 Ny15
   obtain ⟨A, hA⟩ : ∃ A, (if j.cb then yesL else noL) = A := ⟨_, rfl⟩
   have LA : Hid (A.length ≤ 3) := Lib.hid (by rw [← hA]; cases j.cb <;> decide)
   have HY := Lib.hid (fun w1 => ryes_any j.cb w1)
   rw [hA] at HY
   obtain ⟨q1, hq1⟩ : ∃ y : List UInt8, y16 ++ [99, 111, 109, 98, 105, 110, 101, 32] = y := ⟨_, rfl⟩
   have Nq1 : Hid (q1.length ≤ 14760308) := Lib.hid (by
    have := Ny16.out; rw [← hq1, List.length_append]
    try simp only [List.length_cons, List.length_nil]
    omega)
   have xq1 : tx y16 ++ (⟨#[99, 111, 109, 98, 105, 110, 101, 32]⟩ : ByteArray) = tx q1 := by rw [← hq1, ← tx_append] <;> rfl
   have zq1 : ¬ (tx y16).size + 8 > 9223372036854775807 := by
    simp only [tx_size]
    have := Ny16.out; omega
   have Hq1 := Lib.hid hq1; clear hq1
   obtain ⟨q2, hq2⟩ : ∃ y : List UInt8, q1 ++ A = y := ⟨_, rfl⟩
   have Nq2 : Hid (q2.length ≤ 14760311) := Lib.hid (by
    have := Nq1.out; have := LA.out; rw [← hq2, List.length_append]
    try simp only [List.length_cons, List.length_nil]
    omega)
   have xq2 : tx q1 ++ tx (A) = tx q2 := by rw [← hq2, ← tx_append] <;> rfl
   have zq2 : ¬ (tx q1).size + (tx (A)).size > 9223372036854775807 := by
    simp only [tx_size]
    have := Nq1.out; have := LA.out; omega
   have Hq2 := Lib.hid hq2; clear hq2
   obtain ⟨q3, hq3⟩ : ∃ y : List UInt8, q2 ++ [10] = y := ⟨_, rfl⟩
   have Nq3 : Hid (q3.length ≤ 14760312) := Lib.hid (by
    have := Nq2.out; rw [← hq3, List.length_append]
    try simp only [List.length_cons, List.length_nil]
    omega)
   have xq3 : tx q2 ++ (⟨#[10]⟩ : ByteArray) = tx q3 := by rw [← hq3, ← tx_append] <;> rfl
   have zq3 : ¬ (tx q2).size + 1 > 9223372036854775807 := by
    simp only [tx_size]
    have := Nq2.out; omega
   have Hq3 := Lib.hid hq3; clear hq3
   have HE : Hid (q3 = f9 j) := Lib.hid (by unfold f9; rw [hA, ← Hq3.out, ← Hq2.out, ← Hq1.out, HF8.out]; unfold ln; simp)
   clear hA Hq1 Hq2 Hq3
   have d10 := HJ.out.c 10 _ rfl
   go_wp2_with (fail)
   clear d10
   refine (HY.out _).mono ?_
   rintro e w5 ⟨rfl, hb⟩
   replace HJ := Lib.hid (HJ.out.next hb); replace HB := Lib.hid (Below.next HB.out hb); clear hb
   go_wp2_with (fail)
   exact bodyPost_ret (v := .string (tx q3)) (by simp [results, Tryz.results18, go_sem]) rfl ⟨by rw [HE.out], HB.out⟩
end Go.Proofs.YtimllihegnokeaaGreatDoor.Jo
