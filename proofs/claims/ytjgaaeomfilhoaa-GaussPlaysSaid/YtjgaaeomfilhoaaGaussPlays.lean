/-
  Proved: for every input the law GaussPlays returns true, and leaves its arguments as they were. No condition.
-/
import Derived.Test.YtjgaaeomfilhoaaRows
import Derived.WalkKit
import Derived.ProofKit
import Derived.OpenShut
import Derived.ShutString
import Derived.Test.YtjgaaeomfilhoaaGaIn
import Derived.Deep.Cut
namespace Go.Proofs.Ytjgaaeomfilhoaa.gaussPlays
open Go.ChangeShapes Go.WideShapes Go.ChangeAt Go.RowKit
open Go.ChangeMaps (open_string shut_string)
set_option linter.unusedVariables false      -- a walk need not use every 'w<i>' (that an integer argument fits its kind)

theorem own : ownKnob Try.prog.godebug = none := by kernel_rfl

open Go.Proofs.Ytjgaaeomfilhoaa.Ga Go.Proofs.Ytjgaaeomfilhoaa.Ov
set_option maxRecDepth 100000 in
set_option maxHeartbeats 8000000 in
theorem tt {x y u v n m1 m2 s1 s2 e1 d1 d2 e2 p1 p2 e3 nn : Int} {N : Nat} (w : World) (hA : Hid (rb ⟨x, y⟩ = true)) (hx1 : -16777216 ≤ x) (hx2 : x ≤ 16777216) (hy1 : -16777216 ≤ y) (hy2 : y ≤ 16777216) (hN1 : (n.tmod 4 + 4) % 4 = (N : Int)) (hN2 : (n.tmod 4 + 4).tmod 4 = (N : Int)) (hn1 : -4 < n.tmod 4) (hn2 : n.tmod 4 < 4) (hu1 : -16777216 ≤ u) (hu2 : u ≤ 16777216) (hv1 : -16777216 ≤ v) (hv2 : v ≤ 16777216)
    (HRa : Hid (∀ w, Calls Try.prog 16 #[.agg #[.int .i64 x, .int .i64 y]] w (Gives (.bool true) w)))
    (HRb : Hid (∀ w, Calls Try.prog 16 #[.agg #[.int .i64 u, .int .i64 v]] w (Gives (.bool true) w)))
    (HMr : Hid (∀ w, Calls Try.prog 17 #[.agg #[.int .i64 x, .int .i64 y], .agg #[.int .i64 u, .int .i64 v]] w (Gives (.agg #[.int .i64 m1, .int .i64 m2]) w)))
    (HAdd : Hid (∀ w, Calls Try.prog 11 #[.agg #[.int .i64 x, .int .i64 y], .agg #[.int .i64 u, .int .i64 v]] w (Gives (.tuple #[.agg #[.int .i64 s1, .int .i64 s2], .int .i64 e1]) w)))
    (HI1 : Hid (∀ w, Calls Try.prog 18 #[.agg #[.int .i64 (x + u), .int .i64 (y + v)], .bool true] w (Gives (.tuple #[.agg #[.int .i64 s1, .int .i64 s2], .int .i64 e1]) w)))
    (HSub : Hid (∀ w, Calls Try.prog 12 #[.agg #[.int .i64 x, .int .i64 y], .agg #[.int .i64 u, .int .i64 v]] w (Gives (.tuple #[.agg #[.int .i64 d1, .int .i64 d2], .int .i64 e2]) w)))
    (HI2 : Hid (∀ w, Calls Try.prog 18 #[.agg #[.int .i64 (x - u), .int .i64 (y - v)], .bool true] w (Gives (.tuple #[.agg #[.int .i64 d1, .int .i64 d2], .int .i64 e2]) w)))
    (HMu : Hid (∀ w, Calls Try.prog 10 #[.agg #[.int .i64 x, .int .i64 y], .agg #[.int .i64 u, .int .i64 v]] w (Gives (.tuple #[.agg #[.int .i64 p1, .int .i64 p2], .int .i64 e3]) w)))
    (HI3 : Hid (∀ w, Calls Try.prog 18 #[.agg #[.int .i64 m1, .int .i64 m2], .bool true] w (Gives (.tuple #[.agg #[.int .i64 p1, .int .i64 p2], .int .i64 e3]) w)))
    (HCo : Hid (∀ w, Calls Try.prog 20 #[.agg #[.int .i64 x, .int .i64 y]] w (Gives (.tuple #[.agg #[.int .i64 x, .int .i64 (-y)], .int .i64 0]) w)))
    (HNo : Hid (∀ w, Calls Try.prog 13 #[.agg #[.int .i64 x, .int .i64 y]] w (Gives (.tuple #[.int .i64 nn, .int .i64 0]) w)))
    (HRN : Hid (∀ w, Calls Try.prog 21 #[.agg #[.int .i64 x, .int .i64 y]] w (Gives (.int .i64 nn) w)))
    (HTn : Hid (∀ w, Calls Try.prog 19 #[.agg #[.int .i64 x, .int .i64 y], .int .i64 n] w (Gives (.tuple #[.agg #[.int .i64 (Pt.turns N ⟨x, y⟩).x, .int .i64 (Pt.turns N ⟨x, y⟩).y], .int .i64 0]) w)))
    (HR : Hid (∀ w, Calls Try.prog 22 #[.agg #[.int .i64 x, .int .i64 y]] w (Gives (.bool true) w)))
    (hl : (x < u ∧ Hid (∀ w, Calls Try.prog 23 #[.agg #[.int .i64 x, .int .i64 y], .agg #[.int .i64 u, .int .i64 v]] w (Gives (.bool true) w))) ∨ (decide (x < u) = false ∧ (x == u) = true ∧ y < v ∧ Hid (∀ w, Calls Try.prog 23 #[.agg #[.int .i64 x, .int .i64 y], .agg #[.int .i64 u, .int .i64 v]] w (Gives (.bool true) w))) ∨ (decide (x < u) = false ∧ (x == u) = true ∧ decide (y < v) = false ∧ Hid (∀ w, Calls Try.prog 23 #[.agg #[.int .i64 x, .int .i64 y], .agg #[.int .i64 u, .int .i64 v]] w (Gives (.bool false) w))) ∨ (decide (x < u) = false ∧ (x == u) = false ∧ Hid (∀ w, Calls Try.prog 23 #[.agg #[.int .i64 x, .int .i64 y], .agg #[.int .i64 u, .int .i64 v]] w (Gives (.bool false) w)))) : Calls Try.prog 6 #[.agg #[.int .i64 x, .int .i64 y], .agg #[.int .i64 u, .int .i64 v], .int .i64 n] w (Gives (.bool true) w) := by
  go_enter Try.func6, Try.ntmps6
  go_wp2_with (fail)
  obtain ⟨kb, oD0, oD1⟩ := boxes2 23 (.int .i64 x) (.int .i64 y) (.int .i64 u) (.int .i64 v) w
  have HB_1 := Lib.hid kb
  have D0_1 := Lib.hid oD0
  have D1_1 := Lib.hid oD1
  clear kb oD0 oD1
  generalize (w.alloc (.cells #[.int .i64 x, .int .i64 y] 23)).alloc (.cells #[.int .i64 u, .int .i64 v] 23) = v1 at *
  refine (awake_any _).mono ?_
  rintro e w1_ ⟨rfl, hb⟩
  have D0_2 := Lib.hid (D0_1.out.next hb)
  have D1_2 := Lib.hid (D1_1.out.next hb)
  have HB_2 := Lib.hid (Below.next HB_1.out hb)
  clear D0_1 D1_1 HB_1
  clear hb
  go_wp2_with (fail)
  have qD00 := fun (r : Over w1_) => (D0_2.out.over r).c0
  have qD01 := fun (r : Over w1_) => (D0_2.out.over r).c1
  have qD10 := fun (r : Over w1_) => (D1_2.out.over r).c0
  have qD11 := fun (r : Over w1_) => (D1_2.out.over r).c1
  refine wp_over (by kernel_rfl) (by kernel_rfl) ?_
  repeat (go_big_quiet_step (first | fail | with_reducible exact over_gives _ (HRa.out _) | with_reducible exact over_gives _ (HRb.out _)))
  refine wpQuiet_nil ?_
  rintro w2q ⟨⟨w2q, hb⟩, rfl⟩
  clear qD00 qD01 qD10 qD11
  have D0_3 := Lib.hid (D0_2.out.next hb)
  have D1_3 := Lib.hid (D1_2.out.next hb)
  have HB_3 := Lib.hid (Below.next HB_2.out hb)
  clear D0_2 D1_2 HB_2
  clear hb
  have hlt := D1_3.out.lt
  obtain ⟨kb, oS9, oS10, oS11, oS12⟩ := boxes4 23 (.int .i64 0) (.int .i64 0) (.int .i64 0) (.int .i64 0) (.int .i64 0) (.int .i64 0) (.int .i64 0) (.int .i64 0) w2q
  have D0_4 := Lib.hid (D0_3.out.next kb)
  have D1_4 := Lib.hid (D1_3.out.next kb)
  have HB_4 := Lib.hid (Below.next HB_3.out kb)
  clear D0_3 D1_3 HB_3
  have S9_4 := Lib.hid oS9
  have S10_4 := Lib.hid oS10
  have S11_4 := Lib.hid oS11
  have S12_4 := Lib.hid oS12
  clear kb oS9 oS10 oS11 oS12
  go_upto_region 5 with (fail)
  generalize (((w2q.alloc (.cells #[.int .i64 0, .int .i64 0] 23)).alloc (.cells #[.int .i64 0, .int .i64 0] 23)).alloc (.cells #[.int .i64 0, .int .i64 0] 23)).alloc (.cells #[.int .i64 0, .int .i64 0] 23) = v0 at *
  generalize w2q.heap.size = g at *
  generalize hb12 : g + 1 + 1 + 1 = b12 at *
  generalize hb11 : g + 1 + 1 = b11 at *
  generalize hb10 : g + 1 = b10 at *
  have HH : Hid (w.heap.size + 1 < g ∧ g < b10 ∧ b10 < b11 ∧ b11 < b12) := Lib.hid (by omega)
  clear hlt hb10 hb11 hb12
  have n0 : ¬ w.heap.size = g := by have := HH.out; omega
  have n1 : ¬ g = w.heap.size := by have := HH.out; omega
  have n2 : ¬ w.heap.size = b10 := by have := HH.out; omega
  have n3 : ¬ b10 = w.heap.size := by have := HH.out; omega
  have n4 : ¬ w.heap.size = b11 := by have := HH.out; omega
  have n5 : ¬ b11 = w.heap.size := by have := HH.out; omega
  have n6 : ¬ w.heap.size = b12 := by have := HH.out; omega
  have n7 : ¬ b12 = w.heap.size := by have := HH.out; omega
  have n8 : ¬ w.heap.size + 1 = g := by have := HH.out; omega
  have n9 : ¬ g = w.heap.size + 1 := by have := HH.out; omega
  have n10 : ¬ w.heap.size + 1 = b10 := by have := HH.out; omega
  have n11 : ¬ b10 = w.heap.size + 1 := by have := HH.out; omega
  have n12 : ¬ w.heap.size + 1 = b11 := by have := HH.out; omega
  have n13 : ¬ b11 = w.heap.size + 1 := by have := HH.out; omega
  have n14 : ¬ w.heap.size + 1 = b12 := by have := HH.out; omega
  have n15 : ¬ b12 = w.heap.size + 1 := by have := HH.out; omega
  have n16 : ¬ g = b10 := by have := HH.out; omega
  have n17 : ¬ b10 = g := by have := HH.out; omega
  have n18 : ¬ g = b11 := by have := HH.out; omega
  have n19 : ¬ b11 = g := by have := HH.out; omega
  have n20 : ¬ g = b12 := by have := HH.out; omega
  have n21 : ¬ b12 = g := by have := HH.out; omega
  have n22 : ¬ b10 = b11 := by have := HH.out; omega
  have n23 : ¬ b11 = b10 := by have := HH.out; omega
  have n24 : ¬ b10 = b12 := by have := HH.out; omega
  have n25 : ¬ b12 = b10 := by have := HH.out; omega
  have n26 : ¬ b11 = b12 := by have := HH.out; omega
  have n27 : ¬ b12 = b11 := by have := HH.out; omega
  obtain ⟨D00, D01, D02, D03⟩ := D0_4.out
  obtain ⟨D10, D11, D12, D13⟩ := D1_4.out
  obtain ⟨S90, S91, S92, S93⟩ := S9_4.out
  obtain ⟨S100, S101, S102, S103⟩ := S10_4.out
  go_wp2_with (fail)
  clear D00 D01 D02 D03 D10 D11 D12 D13 S90 S91 S92 S93 S100 S101 S102 S103
  have D0_5 := Lib.hid (D0_4.out.put2 (c := g) (by have := HH.out; omega) (.int .i64 (x + u)) (.int .i64 (y + v)))
  have D1_5 := Lib.hid (D1_4.out.put2 (c := g) (by have := HH.out; omega) (.int .i64 (x + u)) (.int .i64 (y + v)))
  have S9_5 := Lib.hid (S9_4.out.set (.int .i64 (x + u)) (.int .i64 (y + v)))
  have S10_5 := Lib.hid (S10_4.out.put2 (c := g) (by have := HH.out; omega) (.int .i64 (x + u)) (.int .i64 (y + v)))
  have S11_5 := Lib.hid (S11_4.out.put2 (c := g) (by have := HH.out; omega) (.int .i64 (x + u)) (.int .i64 (y + v)))
  have S12_5 := Lib.hid (S12_4.out.put2 (c := g) (by have := HH.out; omega) (.int .i64 (x + u)) (.int .i64 (y + v)))
  have HB_5 := Lib.hid (below_put2 HB_4.out (c := g) (by have := HH.out; omega) (.int .i64 (x + u)) (.int .i64 (y + v)))
  clear D0_4 D1_4 S9_4 S10_4 S11_4 S12_4 HB_4
  have D0_6 := Lib.hid (D0_5.out.put2 (c := b10) (by have := HH.out; omega) (.int .i64 (x - u)) (.int .i64 (y - v)))
  have D1_6 := Lib.hid (D1_5.out.put2 (c := b10) (by have := HH.out; omega) (.int .i64 (x - u)) (.int .i64 (y - v)))
  have S9_6 := Lib.hid (S9_5.out.put2 (c := b10) (by have := HH.out; omega) (.int .i64 (x - u)) (.int .i64 (y - v)))
  have S10_6 := Lib.hid (S10_5.out.set (.int .i64 (x - u)) (.int .i64 (y - v)))
  have S11_6 := Lib.hid (S11_5.out.put2 (c := b10) (by have := HH.out; omega) (.int .i64 (x - u)) (.int .i64 (y - v)))
  have S12_6 := Lib.hid (S12_5.out.put2 (c := b10) (by have := HH.out; omega) (.int .i64 (x - u)) (.int .i64 (y - v)))
  have HB_6 := Lib.hid (below_put2 HB_5.out (c := b10) (by have := HH.out; omega) (.int .i64 (x - u)) (.int .i64 (y - v)))
  clear D0_5 D1_5 S9_5 S10_5 S11_5 S12_5 HB_5
  generalize ((((v0).setCell ⟨g, 0, none⟩ (.int .i64 (x + u))).setCell ⟨g, 1, none⟩ (.int .i64 (y + v))).setCell ⟨b10, 0, none⟩ (.int .i64 (x - u))).setCell ⟨b10, 1, none⟩ (.int .i64 (y - v)) = v1 at *
  refine (HMr.out _).mono ?_
  rintro e v2 ⟨rfl, hb⟩
  have D0_7 := Lib.hid (D0_6.out.next hb)
  have D1_7 := Lib.hid (D1_6.out.next hb)
  have S9_7 := Lib.hid (S9_6.out.next hb)
  have S10_7 := Lib.hid (S10_6.out.next hb)
  have S11_7 := Lib.hid (S11_6.out.next hb)
  have S12_7 := Lib.hid (S12_6.out.next hb)
  have HB_7 := Lib.hid (Below.next HB_6.out hb)
  clear D0_6 D1_6 S9_6 S10_6 S11_6 S12_6 HB_6
  clear hb
  obtain ⟨D00, D01, D02, D03⟩ := D0_7.out
  obtain ⟨S110, S111, S112, S113⟩ := S11_7.out
  obtain ⟨S120, S121, S122, S123⟩ := S12_7.out
  go_wp2_with (fail)
  clear D00 D01 D02 D03 S110 S111 S112 S113 S120 S121 S122 S123
  have D0_8 := Lib.hid (D0_7.out.put2 (c := b11) (by have := HH.out; omega) (.int .i64 m1) (.int .i64 m2))
  have D1_8 := Lib.hid (D1_7.out.put2 (c := b11) (by have := HH.out; omega) (.int .i64 m1) (.int .i64 m2))
  have S9_8 := Lib.hid (S9_7.out.put2 (c := b11) (by have := HH.out; omega) (.int .i64 m1) (.int .i64 m2))
  have S10_8 := Lib.hid (S10_7.out.put2 (c := b11) (by have := HH.out; omega) (.int .i64 m1) (.int .i64 m2))
  have S11_8 := Lib.hid (S11_7.out.set (.int .i64 m1) (.int .i64 m2))
  have S12_8 := Lib.hid (S12_7.out.put2 (c := b11) (by have := HH.out; omega) (.int .i64 m1) (.int .i64 m2))
  have HB_8 := Lib.hid (below_put2 HB_7.out (c := b11) (by have := HH.out; omega) (.int .i64 m1) (.int .i64 m2))
  clear D0_7 D1_7 S9_7 S10_7 S11_7 S12_7 HB_7
  have D0_9 := Lib.hid (D0_8.out.put2 (c := b12) (by have := HH.out; omega) (.int .i64 x) (.int .i64 y))
  have D1_9 := Lib.hid (D1_8.out.put2 (c := b12) (by have := HH.out; omega) (.int .i64 x) (.int .i64 y))
  have S9_9 := Lib.hid (S9_8.out.put2 (c := b12) (by have := HH.out; omega) (.int .i64 x) (.int .i64 y))
  have S10_9 := Lib.hid (S10_8.out.put2 (c := b12) (by have := HH.out; omega) (.int .i64 x) (.int .i64 y))
  have S11_9 := Lib.hid (S11_8.out.put2 (c := b12) (by have := HH.out; omega) (.int .i64 x) (.int .i64 y))
  have S12_9 := Lib.hid (S12_8.out.set (.int .i64 x) (.int .i64 y))
  have HB_9 := Lib.hid (below_put2 HB_8.out (c := b12) (by have := HH.out; omega) (.int .i64 x) (.int .i64 y))
  clear D0_8 D1_8 S9_8 S10_8 S11_8 S12_8 HB_8
  generalize ((((v2).setCell ⟨b11, 0, none⟩ (.int .i64 m1)).setCell ⟨b11, 1, none⟩ (.int .i64 m2)).setCell ⟨b12, 0, none⟩ (.int .i64 x)).setCell ⟨b12, 1, none⟩ (.int .i64 y) = v3 at *
  clear n0 n1 n2 n3 n4 n5 n6 n7 n8 n9 n10 n11 n12 n13 n14 n15 n16 n17 n18 n19 n20 n21 n22 n23 n24 n25 n26 n27
  go_loopw [13] (fun I wr => RelP x y u v (x + u) (y + v) (x - u) (y - v) (m1) (m2) g b10 b11 b12 w N I wr) (fun I _ => N - (intOf I).toNat)
  case atStart => exact ⟨0, x, y, Nat.zero_le _, rfl, rfl, D0_9.out, D1_9.out, S9_9.out, S10_9.out, S11_9.out, S12_9.out, HB_9.out⟩
  case round =>
    clear D0_9 D1_9 S9_9 S10_9 S11_9 S12_9 HB_9
    obtain ⟨k, p, q, hk, rfl, ht, o0, o1, o2, o3, o4, o5, hb⟩ := hrel
    have HT := Lib.hid ht; have HBr := Lib.hid hb; have D0_r := Lib.hid o0; have D1_r := Lib.hid o1; have S9_r := Lib.hid o2; have S10_r := Lib.hid o3; have S11_r := Lib.hid o4; have S12_r := Lib.hid o5
    clear ht hb o0 o1 o2 o3 o4 o5
    by_cases hlt : k < N
    · have k0 : (k : Int) < (N : Int) := by omega
      have HM := Lib.hid (rturn_any hA.out HT.out)
      have HT' : Hid (Pt.turns (k + 1) ⟨x, y⟩ = ⟨-q, p⟩) := by
        show (Pt.turns k ⟨x, y⟩).turn = _
        rw [HT.out]; rfl
      generalize -q = q' at *
      obtain ⟨c0, c1, f0, f1⟩ := S12_r.out
      go_wp2_with (fail)
      refine (HM.out _).mono ?_
      rintro e w2 ⟨rfl, hb⟩
      have D0_q := Lib.hid ((D0_r.out.next hb).put2 (c := b12) (by have := HH.out; omega) (.int .i64 q') (.int .i64 p))
      have D1_q := Lib.hid ((D1_r.out.next hb).put2 (c := b12) (by have := HH.out; omega) (.int .i64 q') (.int .i64 p))
      have S9_q := Lib.hid ((S9_r.out.next hb).put2 (c := b12) (by have := HH.out; omega) (.int .i64 q') (.int .i64 p))
      have S10_q := Lib.hid ((S10_r.out.next hb).put2 (c := b12) (by have := HH.out; omega) (.int .i64 q') (.int .i64 p))
      have S11_q := Lib.hid ((S11_r.out.next hb).put2 (c := b12) (by have := HH.out; omega) (.int .i64 q') (.int .i64 p))
      have S12_q := Lib.hid ((S12_r.out.next hb).set (.int .i64 q') (.int .i64 p))
      have HBq := Lib.hid (below_put2 (Below.next HBr.out hb) (c := b12) (by have := HH.out; omega) (.int .i64 q') (.int .i64 p))
      obtain ⟨i0, i1, j0, j1⟩ := S12_r.out.next hb
      have hz := (S12_r.out.next hb).lt
      clear hb c0 c1 f0 f1
      go_wp2_with (fail)
      go_roundw
      case rel => exact ⟨k + 1, q', p, hlt, by go_num, HT'.out, D0_q.out, D1_q.out, S9_q.out, S10_q.out, S11_q.out, S12_q.out, HBq.out⟩
      case measure => simp [intOf]; omega
    · obtain rfl : k = N := by omega
      have HTu : Hid (∀ w, Calls Try.prog 19 #[.agg #[.int .i64 x, .int .i64 y], .int .i64 n] w (Gives (.tuple #[.agg #[.int .i64 p, .int .i64 q], .int .i64 0]) w)) := by
        have h := HTn.out; rw [HT.out] at h; exact h
      have HI4 : Hid (∀ w, Calls Try.prog 18 #[.agg #[.int .i64 p, .int .i64 q], .bool true] w (Gives (.tuple #[.agg #[.int .i64 p, .int .i64 q], .int .i64 0]) w)) := Lib.hid fun w => by
        have h := in_true p q w; rw [show rb ⟨p, q⟩ = true by rw [← HT.out]; exact Pt.turns_right _ hA.out] at h; exact h
      clear HT HTn
      obtain ⟨D00, D01, D02, D03⟩ := D0_r.out
      obtain ⟨D10, D11, D12, D13⟩ := D1_r.out
      go_wp2_with (fail)
      clear D00 D01 D02 D03 D10 D11 D12 D13
      refine (HAdd.out _).mono ?_
      rintro e w9_ ⟨rfl, hb⟩
      have D0_10 := Lib.hid (D0_r.out.next hb)
      have D1_10 := Lib.hid (D1_r.out.next hb)
      have S9_10 := Lib.hid (S9_r.out.next hb)
      have S10_10 := Lib.hid (S10_r.out.next hb)
      have S11_10 := Lib.hid (S11_r.out.next hb)
      have S12_10 := Lib.hid (S12_r.out.next hb)
      have HB_10 := Lib.hid (Below.next HBr.out hb)
      clear D0_r D1_r S9_r S10_r S11_r S12_r HBr
      clear hb
      obtain ⟨kb, oS14⟩ := boxes1 23 (.int .i64 s1) (.int .i64 s2) w9_
      have D0_11 := Lib.hid (D0_10.out.next kb)
      have D1_11 := Lib.hid (D1_10.out.next kb)
      have S9_11 := Lib.hid (S9_10.out.next kb)
      have S10_11 := Lib.hid (S10_10.out.next kb)
      have S11_11 := Lib.hid (S11_10.out.next kb)
      have S12_11 := Lib.hid (S12_10.out.next kb)
      have HB_11 := Lib.hid (Below.next HB_10.out kb)
      clear D0_10 D1_10 S9_10 S10_10 S11_10 S12_10 HB_10
      have S14_11 := Lib.hid oS14
      clear kb oS14
      obtain ⟨S90, S91, S92, S93⟩ := S9_11.out
      go_wp2_with (fail)
      generalize w9_.alloc (.cells #[.int .i64 s1, .int .i64 s2] 23) = v11 at *
      generalize w9_.heap.size = g11 at *
      clear S90 S91 S92 S93
      refine (HI1.out _).mono ?_
      rintro e w11_ ⟨rfl, hb⟩
      clear S9_11
      have D0_12 := Lib.hid (D0_11.out.next hb)
      have D1_12 := Lib.hid (D1_11.out.next hb)
      have S10_12 := Lib.hid (S10_11.out.next hb)
      have S11_12 := Lib.hid (S11_11.out.next hb)
      have S12_12 := Lib.hid (S12_11.out.next hb)
      have S14_12 := Lib.hid (S14_11.out.next hb)
      have HB_12 := Lib.hid (Below.next HB_11.out hb)
      clear D0_11 D1_11 S10_11 S11_11 S12_11 S14_11 HB_11
      clear hb
      obtain ⟨kb, oS16⟩ := boxes1 23 (.int .i64 s1) (.int .i64 s2) w11_
      have D0_13 := Lib.hid (D0_12.out.next kb)
      have D1_13 := Lib.hid (D1_12.out.next kb)
      have S10_13 := Lib.hid (S10_12.out.next kb)
      have S11_13 := Lib.hid (S11_12.out.next kb)
      have S12_13 := Lib.hid (S12_12.out.next kb)
      have S14_13 := Lib.hid (S14_12.out.next kb)
      have HB_13 := Lib.hid (Below.next HB_12.out kb)
      clear D0_12 D1_12 S10_12 S11_12 S12_12 S14_12 HB_12
      have S16_13 := Lib.hid oS16
      clear kb oS16
      obtain ⟨D00, D01, D02, D03⟩ := D0_13.out
      obtain ⟨D10, D11, D12, D13⟩ := D1_13.out
      go_wp2_with (fail)
      generalize w11_.alloc (.cells #[.int .i64 s1, .int .i64 s2] 23) = v13 at *
      generalize w11_.heap.size = g13 at *
      clear D00 D01 D02 D03 D10 D11 D12 D13
      refine (HSub.out _).mono ?_
      rintro e w13_ ⟨rfl, hb⟩
      have D0_14 := Lib.hid (D0_13.out.next hb)
      have D1_14 := Lib.hid (D1_13.out.next hb)
      have S10_14 := Lib.hid (S10_13.out.next hb)
      have S11_14 := Lib.hid (S11_13.out.next hb)
      have S12_14 := Lib.hid (S12_13.out.next hb)
      have S14_14 := Lib.hid (S14_13.out.next hb)
      have S16_14 := Lib.hid (S16_13.out.next hb)
      have HB_14 := Lib.hid (Below.next HB_13.out hb)
      clear D0_13 D1_13 S10_13 S11_13 S12_13 S14_13 S16_13 HB_13
      clear hb
      obtain ⟨kb, oS18⟩ := boxes1 23 (.int .i64 d1) (.int .i64 d2) w13_
      have D0_15 := Lib.hid (D0_14.out.next kb)
      have D1_15 := Lib.hid (D1_14.out.next kb)
      have S10_15 := Lib.hid (S10_14.out.next kb)
      have S11_15 := Lib.hid (S11_14.out.next kb)
      have S12_15 := Lib.hid (S12_14.out.next kb)
      have S14_15 := Lib.hid (S14_14.out.next kb)
      have S16_15 := Lib.hid (S16_14.out.next kb)
      have HB_15 := Lib.hid (Below.next HB_14.out kb)
      clear D0_14 D1_14 S10_14 S11_14 S12_14 S14_14 S16_14 HB_14
      have S18_15 := Lib.hid oS18
      clear kb oS18
      obtain ⟨S100, S101, S102, S103⟩ := S10_15.out
      go_wp2_with (fail)
      generalize w13_.alloc (.cells #[.int .i64 d1, .int .i64 d2] 23) = v15 at *
      generalize w13_.heap.size = g15 at *
      clear S100 S101 S102 S103
      refine (HI2.out _).mono ?_
      rintro e w15_ ⟨rfl, hb⟩
      clear S10_15
      have D0_16 := Lib.hid (D0_15.out.next hb)
      have D1_16 := Lib.hid (D1_15.out.next hb)
      have S11_16 := Lib.hid (S11_15.out.next hb)
      have S12_16 := Lib.hid (S12_15.out.next hb)
      have S14_16 := Lib.hid (S14_15.out.next hb)
      have S16_16 := Lib.hid (S16_15.out.next hb)
      have S18_16 := Lib.hid (S18_15.out.next hb)
      have HB_16 := Lib.hid (Below.next HB_15.out hb)
      clear D0_15 D1_15 S11_15 S12_15 S14_15 S16_15 S18_15 HB_15
      clear hb
      obtain ⟨kb, oS20⟩ := boxes1 23 (.int .i64 d1) (.int .i64 d2) w15_
      have D0_17 := Lib.hid (D0_16.out.next kb)
      have D1_17 := Lib.hid (D1_16.out.next kb)
      have S11_17 := Lib.hid (S11_16.out.next kb)
      have S12_17 := Lib.hid (S12_16.out.next kb)
      have S14_17 := Lib.hid (S14_16.out.next kb)
      have S16_17 := Lib.hid (S16_16.out.next kb)
      have S18_17 := Lib.hid (S18_16.out.next kb)
      have HB_17 := Lib.hid (Below.next HB_16.out kb)
      clear D0_16 D1_16 S11_16 S12_16 S14_16 S16_16 S18_16 HB_16
      have S20_17 := Lib.hid oS20
      clear kb oS20
      obtain ⟨D00, D01, D02, D03⟩ := D0_17.out
      obtain ⟨D10, D11, D12, D13⟩ := D1_17.out
      go_wp2_with (fail)
      generalize w15_.alloc (.cells #[.int .i64 d1, .int .i64 d2] 23) = v17 at *
      generalize w15_.heap.size = g17 at *
      clear D00 D01 D02 D03 D10 D11 D12 D13
      refine (HMu.out _).mono ?_
      rintro e w17_ ⟨rfl, hb⟩
      have D0_18 := Lib.hid (D0_17.out.next hb)
      have D1_18 := Lib.hid (D1_17.out.next hb)
      have S11_18 := Lib.hid (S11_17.out.next hb)
      have S12_18 := Lib.hid (S12_17.out.next hb)
      have S14_18 := Lib.hid (S14_17.out.next hb)
      have S16_18 := Lib.hid (S16_17.out.next hb)
      have S18_18 := Lib.hid (S18_17.out.next hb)
      have S20_18 := Lib.hid (S20_17.out.next hb)
      have HB_18 := Lib.hid (Below.next HB_17.out hb)
      clear D0_17 D1_17 S11_17 S12_17 S14_17 S16_17 S18_17 S20_17 HB_17
      clear hb
      obtain ⟨kb, oS22⟩ := boxes1 23 (.int .i64 p1) (.int .i64 p2) w17_
      have D0_19 := Lib.hid (D0_18.out.next kb)
      have D1_19 := Lib.hid (D1_18.out.next kb)
      have S11_19 := Lib.hid (S11_18.out.next kb)
      have S12_19 := Lib.hid (S12_18.out.next kb)
      have S14_19 := Lib.hid (S14_18.out.next kb)
      have S16_19 := Lib.hid (S16_18.out.next kb)
      have S18_19 := Lib.hid (S18_18.out.next kb)
      have S20_19 := Lib.hid (S20_18.out.next kb)
      have HB_19 := Lib.hid (Below.next HB_18.out kb)
      clear D0_18 D1_18 S11_18 S12_18 S14_18 S16_18 S18_18 S20_18 HB_18
      have S22_19 := Lib.hid oS22
      clear kb oS22
      obtain ⟨S110, S111, S112, S113⟩ := S11_19.out
      go_wp2_with (fail)
      generalize w17_.alloc (.cells #[.int .i64 p1, .int .i64 p2] 23) = v19 at *
      generalize w17_.heap.size = g19 at *
      clear S110 S111 S112 S113
      refine (HI3.out _).mono ?_
      rintro e w19_ ⟨rfl, hb⟩
      clear S11_19
      have D0_20 := Lib.hid (D0_19.out.next hb)
      have D1_20 := Lib.hid (D1_19.out.next hb)
      have S12_20 := Lib.hid (S12_19.out.next hb)
      have S14_20 := Lib.hid (S14_19.out.next hb)
      have S16_20 := Lib.hid (S16_19.out.next hb)
      have S18_20 := Lib.hid (S18_19.out.next hb)
      have S20_20 := Lib.hid (S20_19.out.next hb)
      have S22_20 := Lib.hid (S22_19.out.next hb)
      have HB_20 := Lib.hid (Below.next HB_19.out hb)
      clear D0_19 D1_19 S12_19 S14_19 S16_19 S18_19 S20_19 S22_19 HB_19
      clear hb
      obtain ⟨kb, oS24⟩ := boxes1 23 (.int .i64 p1) (.int .i64 p2) w19_
      have D0_21 := Lib.hid (D0_20.out.next kb)
      have D1_21 := Lib.hid (D1_20.out.next kb)
      have S12_21 := Lib.hid (S12_20.out.next kb)
      have S14_21 := Lib.hid (S14_20.out.next kb)
      have S16_21 := Lib.hid (S16_20.out.next kb)
      have S18_21 := Lib.hid (S18_20.out.next kb)
      have S20_21 := Lib.hid (S20_20.out.next kb)
      have S22_21 := Lib.hid (S22_20.out.next kb)
      have HB_21 := Lib.hid (Below.next HB_20.out kb)
      clear D0_20 D1_20 S12_20 S14_20 S16_20 S18_20 S20_20 S22_20 HB_20
      have S24_21 := Lib.hid oS24
      clear kb oS24
      obtain ⟨D00, D01, D02, D03⟩ := D0_21.out
      go_wp2_with (fail)
      generalize w19_.alloc (.cells #[.int .i64 p1, .int .i64 p2] 23) = v21 at *
      generalize w19_.heap.size = g21 at *
      clear D00 D01 D02 D03
      refine (HTu.out _).mono ?_
      rintro e w21_ ⟨rfl, hb⟩
      have D0_22 := Lib.hid (D0_21.out.next hb)
      have D1_22 := Lib.hid (D1_21.out.next hb)
      have S12_22 := Lib.hid (S12_21.out.next hb)
      have S14_22 := Lib.hid (S14_21.out.next hb)
      have S16_22 := Lib.hid (S16_21.out.next hb)
      have S18_22 := Lib.hid (S18_21.out.next hb)
      have S20_22 := Lib.hid (S20_21.out.next hb)
      have S22_22 := Lib.hid (S22_21.out.next hb)
      have S24_22 := Lib.hid (S24_21.out.next hb)
      have HB_22 := Lib.hid (Below.next HB_21.out hb)
      clear D0_21 D1_21 S12_21 S14_21 S16_21 S18_21 S20_21 S22_21 S24_21 HB_21
      clear hb
      obtain ⟨kb, oS26⟩ := boxes1 23 (.int .i64 p) (.int .i64 q) w21_
      have D0_23 := Lib.hid (D0_22.out.next kb)
      have D1_23 := Lib.hid (D1_22.out.next kb)
      have S12_23 := Lib.hid (S12_22.out.next kb)
      have S14_23 := Lib.hid (S14_22.out.next kb)
      have S16_23 := Lib.hid (S16_22.out.next kb)
      have S18_23 := Lib.hid (S18_22.out.next kb)
      have S20_23 := Lib.hid (S20_22.out.next kb)
      have S22_23 := Lib.hid (S22_22.out.next kb)
      have S24_23 := Lib.hid (S24_22.out.next kb)
      have HB_23 := Lib.hid (Below.next HB_22.out kb)
      clear D0_22 D1_22 S12_22 S14_22 S16_22 S18_22 S20_22 S22_22 S24_22 HB_22
      have S26_23 := Lib.hid oS26
      clear kb oS26
      obtain ⟨S120, S121, S122, S123⟩ := S12_23.out
      go_wp2_with (fail)
      generalize w21_.alloc (.cells #[.int .i64 p, .int .i64 q] 23) = v23 at *
      generalize w21_.heap.size = g23 at *
      clear S120 S121 S122 S123
      refine (HI4.out _).mono ?_
      rintro e w23_ ⟨rfl, hb⟩
      clear S12_23
      have D0_24 := Lib.hid (D0_23.out.next hb)
      have D1_24 := Lib.hid (D1_23.out.next hb)
      have S14_24 := Lib.hid (S14_23.out.next hb)
      have S16_24 := Lib.hid (S16_23.out.next hb)
      have S18_24 := Lib.hid (S18_23.out.next hb)
      have S20_24 := Lib.hid (S20_23.out.next hb)
      have S22_24 := Lib.hid (S22_23.out.next hb)
      have S24_24 := Lib.hid (S24_23.out.next hb)
      have S26_24 := Lib.hid (S26_23.out.next hb)
      have HB_24 := Lib.hid (Below.next HB_23.out hb)
      clear D0_23 D1_23 S14_23 S16_23 S18_23 S20_23 S22_23 S24_23 S26_23 HB_23
      clear hb
      obtain ⟨kb, oS28⟩ := boxes1 23 (.int .i64 p) (.int .i64 q) w23_
      have D0_25 := Lib.hid (D0_24.out.next kb)
      have D1_25 := Lib.hid (D1_24.out.next kb)
      have S14_25 := Lib.hid (S14_24.out.next kb)
      have S16_25 := Lib.hid (S16_24.out.next kb)
      have S18_25 := Lib.hid (S18_24.out.next kb)
      have S20_25 := Lib.hid (S20_24.out.next kb)
      have S22_25 := Lib.hid (S22_24.out.next kb)
      have S24_25 := Lib.hid (S24_24.out.next kb)
      have S26_25 := Lib.hid (S26_24.out.next kb)
      have HB_25 := Lib.hid (Below.next HB_24.out kb)
      clear D0_24 D1_24 S14_24 S16_24 S18_24 S20_24 S22_24 S24_24 S26_24 HB_24
      have S28_25 := Lib.hid oS28
      clear kb oS28
      obtain ⟨D00, D01, D02, D03⟩ := D0_25.out
      go_wp2_with (fail)
      generalize w23_.alloc (.cells #[.int .i64 p, .int .i64 q] 23) = v25 at *
      generalize w23_.heap.size = g25 at *
      clear D00 D01 D02 D03
      refine (HCo.out _).mono ?_
      rintro e w25_ ⟨rfl, hb⟩
      have D0_26 := Lib.hid (D0_25.out.next hb)
      have D1_26 := Lib.hid (D1_25.out.next hb)
      have S14_26 := Lib.hid (S14_25.out.next hb)
      have S16_26 := Lib.hid (S16_25.out.next hb)
      have S18_26 := Lib.hid (S18_25.out.next hb)
      have S20_26 := Lib.hid (S20_25.out.next hb)
      have S22_26 := Lib.hid (S22_25.out.next hb)
      have S24_26 := Lib.hid (S24_25.out.next hb)
      have S26_26 := Lib.hid (S26_25.out.next hb)
      have S28_26 := Lib.hid (S28_25.out.next hb)
      have HB_26 := Lib.hid (Below.next HB_25.out hb)
      clear D0_25 D1_25 S14_25 S16_25 S18_25 S20_25 S22_25 S24_25 S26_25 S28_25 HB_25
      clear hb
      obtain ⟨kb, oS30⟩ := boxes1 23 (.int .i64 x) (.int .i64 (-y)) w25_
      have D0_27 := Lib.hid (D0_26.out.next kb)
      have D1_27 := Lib.hid (D1_26.out.next kb)
      have S14_27 := Lib.hid (S14_26.out.next kb)
      have S16_27 := Lib.hid (S16_26.out.next kb)
      have S18_27 := Lib.hid (S18_26.out.next kb)
      have S20_27 := Lib.hid (S20_26.out.next kb)
      have S22_27 := Lib.hid (S22_26.out.next kb)
      have S24_27 := Lib.hid (S24_26.out.next kb)
      have S26_27 := Lib.hid (S26_26.out.next kb)
      have S28_27 := Lib.hid (S28_26.out.next kb)
      have HB_27 := Lib.hid (Below.next HB_26.out kb)
      clear D0_26 D1_26 S14_26 S16_26 S18_26 S20_26 S22_26 S24_26 S26_26 S28_26 HB_26
      have S30_27 := Lib.hid oS30
      clear kb oS30
      obtain ⟨D00, D01, D02, D03⟩ := D0_27.out
      go_wp2_with (fail)
      generalize w25_.alloc (.cells #[.int .i64 x, .int .i64 (-y)] 23) = v27 at *
      generalize w25_.heap.size = g27 at *
      clear D00 D01 D02 D03
      refine (HNo.out _).mono ?_
      rintro e w27_ ⟨rfl, hb⟩
      have D0_28 := Lib.hid (D0_27.out.next hb)
      have D1_28 := Lib.hid (D1_27.out.next hb)
      have S14_28 := Lib.hid (S14_27.out.next hb)
      have S16_28 := Lib.hid (S16_27.out.next hb)
      have S18_28 := Lib.hid (S18_27.out.next hb)
      have S20_28 := Lib.hid (S20_27.out.next hb)
      have S22_28 := Lib.hid (S22_27.out.next hb)
      have S24_28 := Lib.hid (S24_27.out.next hb)
      have S26_28 := Lib.hid (S26_27.out.next hb)
      have S28_28 := Lib.hid (S28_27.out.next hb)
      have S30_28 := Lib.hid (S30_27.out.next hb)
      have HB_28 := Lib.hid (Below.next HB_27.out hb)
      clear D0_27 D1_27 S14_27 S16_27 S18_27 S20_27 S22_27 S24_27 S26_27 S28_27 S30_27 HB_27
      clear hb
      obtain ⟨S140, S141, S142, S143⟩ := S14_28.out
      obtain ⟨S160, S161, S162, S163⟩ := S16_28.out
      obtain ⟨S180, S181, S182, S183⟩ := S18_28.out
      obtain ⟨S200, S201, S202, S203⟩ := S20_28.out
      obtain ⟨S220, S221, S222, S223⟩ := S22_28.out
      obtain ⟨S240, S241, S242, S243⟩ := S24_28.out
      obtain ⟨S260, S261, S262, S263⟩ := S26_28.out
      obtain ⟨S280, S281, S282, S283⟩ := S28_28.out
      obtain ⟨S300, S301, S302, S303⟩ := S30_28.out
      obtain ⟨D00, D01, D02, D03⟩ := D0_28.out
      go_wp2_with (fail)
      clear S140 S141 S142 S143 S160 S161 S162 S163 S180 S181 S182 S183 S200 S201 S202 S203 S220 S221 S222 S223 S240 S241 S242 S243 S260 S261 S262 S263 S280 S281 S282 S283 S300 S301 S302 S303 D00 D01 D02 D03
      refine (HRN.out _).mono ?_
      rintro e w28_ ⟨rfl, hb⟩
      clear S14_28
      clear S16_28
      clear S18_28
      clear S20_28
      clear S22_28
      clear S24_28
      clear S26_28
      clear S28_28
      clear S30_28
      have D0_29 := Lib.hid (D0_28.out.next hb)
      have D1_29 := Lib.hid (D1_28.out.next hb)
      have HB_29 := Lib.hid (Below.next HB_28.out hb)
      clear D0_28 D1_28 HB_28
      clear hb
      go_wp2_with (fail)
      rcases hl with ⟨g1, HL⟩ | ⟨g1, g2, g3, HL⟩ | ⟨g1, g2, g3, HL⟩ | ⟨g1, g2, HL⟩
      all_goals
        have qD00 := fun (r : Over w28_) => (D0_29.out.over r).c0
        have qD01 := fun (r : Over w28_) => (D0_29.out.over r).c1
        have qD10 := fun (r : Over w28_) => (D1_29.out.over r).c0
        have qD11 := fun (r : Over w28_) => (D1_29.out.over r).c1
        refine wp_over (by kernel_rfl) (by kernel_rfl) ?_
        repeat (go_big_quiet_step (first | fail | with_reducible exact over_gives _ (HR.out _) | with_reducible exact over_gives _ (HL.out _)))
        refine wpQuiet_nil ?_
        rintro w29q ⟨⟨w29q, hb⟩, rfl⟩
        clear qD00 qD01 qD10 qD11
        have D0_30 := Lib.hid (D0_29.out.next hb)
        have D1_30 := Lib.hid (D1_29.out.next hb)
        have HB_30 := Lib.hid (Below.next HB_29.out hb)
        clear D0_29 D1_29 HB_29
        clear hb
        go_wp2_with (fail)
        go_ret
        exact ⟨rfl, HB_30.out⟩
set_option maxRecDepth 100000 in
set_option maxHeartbeats 8000000 in
theorem tf {x y u v n s1 s2 e1 d1 d2 e2 p1 p2 e3 nn : Int} {N : Nat} (w : World) (hA : Hid (rb ⟨x, y⟩ = true)) (hx1 : -16777216 ≤ x) (hx2 : x ≤ 16777216) (hy1 : -16777216 ≤ y) (hy2 : y ≤ 16777216) (hN1 : (n.tmod 4 + 4) % 4 = (N : Int)) (hN2 : (n.tmod 4 + 4).tmod 4 = (N : Int)) (hn1 : -4 < n.tmod 4) (hn2 : n.tmod 4 < 4)
    (HRa : Hid (∀ w, Calls Try.prog 16 #[.agg #[.int .i64 x, .int .i64 y]] w (Gives (.bool true) w)))
    (HRb : Hid (∀ w, Calls Try.prog 16 #[.agg #[.int .i64 u, .int .i64 v]] w (Gives (.bool false) w)))
    (HAdd : Hid (∀ w, Calls Try.prog 11 #[.agg #[.int .i64 x, .int .i64 y], .agg #[.int .i64 u, .int .i64 v]] w (Gives (.tuple #[.agg #[.int .i64 s1, .int .i64 s2], .int .i64 e1]) w)))
    (HI1 : Hid (∀ w, Calls Try.prog 18 #[.agg #[.int .i64 0, .int .i64 0], .bool false] w (Gives (.tuple #[.agg #[.int .i64 s1, .int .i64 s2], .int .i64 e1]) w)))
    (HSub : Hid (∀ w, Calls Try.prog 12 #[.agg #[.int .i64 x, .int .i64 y], .agg #[.int .i64 u, .int .i64 v]] w (Gives (.tuple #[.agg #[.int .i64 d1, .int .i64 d2], .int .i64 e2]) w)))
    (HI2 : Hid (∀ w, Calls Try.prog 18 #[.agg #[.int .i64 0, .int .i64 0], .bool false] w (Gives (.tuple #[.agg #[.int .i64 d1, .int .i64 d2], .int .i64 e2]) w)))
    (HMu : Hid (∀ w, Calls Try.prog 10 #[.agg #[.int .i64 x, .int .i64 y], .agg #[.int .i64 u, .int .i64 v]] w (Gives (.tuple #[.agg #[.int .i64 p1, .int .i64 p2], .int .i64 e3]) w)))
    (HI3 : Hid (∀ w, Calls Try.prog 18 #[.agg #[.int .i64 0, .int .i64 0], .bool false] w (Gives (.tuple #[.agg #[.int .i64 p1, .int .i64 p2], .int .i64 e3]) w)))
    (HCo : Hid (∀ w, Calls Try.prog 20 #[.agg #[.int .i64 x, .int .i64 y]] w (Gives (.tuple #[.agg #[.int .i64 x, .int .i64 (-y)], .int .i64 0]) w)))
    (HNo : Hid (∀ w, Calls Try.prog 13 #[.agg #[.int .i64 x, .int .i64 y]] w (Gives (.tuple #[.int .i64 nn, .int .i64 0]) w)))
    (HRN : Hid (∀ w, Calls Try.prog 21 #[.agg #[.int .i64 x, .int .i64 y]] w (Gives (.int .i64 nn) w)))
    (HTn : Hid (∀ w, Calls Try.prog 19 #[.agg #[.int .i64 x, .int .i64 y], .int .i64 n] w (Gives (.tuple #[.agg #[.int .i64 (Pt.turns N ⟨x, y⟩).x, .int .i64 (Pt.turns N ⟨x, y⟩).y], .int .i64 0]) w)))
    (HR : Hid (∀ w, Calls Try.prog 22 #[.agg #[.int .i64 x, .int .i64 y]] w (Gives (.bool true) w)))
    (hl : (x < u ∧ Hid (∀ w, Calls Try.prog 23 #[.agg #[.int .i64 x, .int .i64 y], .agg #[.int .i64 u, .int .i64 v]] w (Gives (.bool true) w))) ∨ (decide (x < u) = false ∧ (x == u) = true ∧ y < v ∧ Hid (∀ w, Calls Try.prog 23 #[.agg #[.int .i64 x, .int .i64 y], .agg #[.int .i64 u, .int .i64 v]] w (Gives (.bool true) w))) ∨ (decide (x < u) = false ∧ (x == u) = true ∧ decide (y < v) = false ∧ Hid (∀ w, Calls Try.prog 23 #[.agg #[.int .i64 x, .int .i64 y], .agg #[.int .i64 u, .int .i64 v]] w (Gives (.bool false) w))) ∨ (decide (x < u) = false ∧ (x == u) = false ∧ Hid (∀ w, Calls Try.prog 23 #[.agg #[.int .i64 x, .int .i64 y], .agg #[.int .i64 u, .int .i64 v]] w (Gives (.bool false) w)))) : Calls Try.prog 6 #[.agg #[.int .i64 x, .int .i64 y], .agg #[.int .i64 u, .int .i64 v], .int .i64 n] w (Gives (.bool true) w) := by
  go_enter Try.func6, Try.ntmps6
  go_wp2_with (fail)
  obtain ⟨kb, oD0, oD1⟩ := boxes2 23 (.int .i64 x) (.int .i64 y) (.int .i64 u) (.int .i64 v) w
  have HB_1 := Lib.hid kb
  have D0_1 := Lib.hid oD0
  have D1_1 := Lib.hid oD1
  clear kb oD0 oD1
  generalize (w.alloc (.cells #[.int .i64 x, .int .i64 y] 23)).alloc (.cells #[.int .i64 u, .int .i64 v] 23) = v1 at *
  refine (awake_any _).mono ?_
  rintro e w1_ ⟨rfl, hb⟩
  have D0_2 := Lib.hid (D0_1.out.next hb)
  have D1_2 := Lib.hid (D1_1.out.next hb)
  have HB_2 := Lib.hid (Below.next HB_1.out hb)
  clear D0_1 D1_1 HB_1
  clear hb
  go_wp2_with (fail)
  have qD00 := fun (r : Over w1_) => (D0_2.out.over r).c0
  have qD01 := fun (r : Over w1_) => (D0_2.out.over r).c1
  have qD10 := fun (r : Over w1_) => (D1_2.out.over r).c0
  have qD11 := fun (r : Over w1_) => (D1_2.out.over r).c1
  refine wp_over (by kernel_rfl) (by kernel_rfl) ?_
  repeat (go_big_quiet_step (first | fail | with_reducible exact over_gives _ (HRa.out _) | with_reducible exact over_gives _ (HRb.out _)))
  refine wpQuiet_nil ?_
  rintro w2q ⟨⟨w2q, hb⟩, rfl⟩
  clear qD00 qD01 qD10 qD11
  have D0_3 := Lib.hid (D0_2.out.next hb)
  have D1_3 := Lib.hid (D1_2.out.next hb)
  have HB_3 := Lib.hid (Below.next HB_2.out hb)
  clear D0_2 D1_2 HB_2
  clear hb
  have hlt := D1_3.out.lt
  obtain ⟨kb, oS9, oS10, oS11, oS12⟩ := boxes4 23 (.int .i64 0) (.int .i64 0) (.int .i64 0) (.int .i64 0) (.int .i64 0) (.int .i64 0) (.int .i64 0) (.int .i64 0) w2q
  have D0_4 := Lib.hid (D0_3.out.next kb)
  have D1_4 := Lib.hid (D1_3.out.next kb)
  have HB_4 := Lib.hid (Below.next HB_3.out kb)
  clear D0_3 D1_3 HB_3
  have S9_4 := Lib.hid oS9
  have S10_4 := Lib.hid oS10
  have S11_4 := Lib.hid oS11
  have S12_4 := Lib.hid oS12
  clear kb oS9 oS10 oS11 oS12
  go_upto_region 5 with (fail)
  generalize (((w2q.alloc (.cells #[.int .i64 0, .int .i64 0] 23)).alloc (.cells #[.int .i64 0, .int .i64 0] 23)).alloc (.cells #[.int .i64 0, .int .i64 0] 23)).alloc (.cells #[.int .i64 0, .int .i64 0] 23) = v0 at *
  generalize w2q.heap.size = g at *
  generalize hb12 : g + 1 + 1 + 1 = b12 at *
  generalize hb11 : g + 1 + 1 = b11 at *
  generalize hb10 : g + 1 = b10 at *
  have HH : Hid (w.heap.size + 1 < g ∧ g < b10 ∧ b10 < b11 ∧ b11 < b12) := Lib.hid (by omega)
  clear hlt hb10 hb11 hb12
  obtain ⟨D00, D01, D02, D03⟩ := D0_4.out
  obtain ⟨S120, S121, S122, S123⟩ := S12_4.out
  go_wp2_with (fail)
  clear D00 D01 D02 D03 S120 S121 S122 S123
  have D0_5 := Lib.hid (D0_4.out.put2 (c := b12) (by have := HH.out; omega) (.int .i64 x) (.int .i64 y))
  have D1_5 := Lib.hid (D1_4.out.put2 (c := b12) (by have := HH.out; omega) (.int .i64 x) (.int .i64 y))
  have S9_5 := Lib.hid (S9_4.out.put2 (c := b12) (by have := HH.out; omega) (.int .i64 x) (.int .i64 y))
  have S10_5 := Lib.hid (S10_4.out.put2 (c := b12) (by have := HH.out; omega) (.int .i64 x) (.int .i64 y))
  have S11_5 := Lib.hid (S11_4.out.put2 (c := b12) (by have := HH.out; omega) (.int .i64 x) (.int .i64 y))
  have S12_5 := Lib.hid (S12_4.out.set (.int .i64 x) (.int .i64 y))
  have HB_5 := Lib.hid (below_put2 HB_4.out (c := b12) (by have := HH.out; omega) (.int .i64 x) (.int .i64 y))
  clear D0_4 D1_4 S9_4 S10_4 S11_4 S12_4 HB_4
  generalize ((v0).setCell ⟨b12, 0, none⟩ (.int .i64 x)).setCell ⟨b12, 1, none⟩ (.int .i64 y) = v3 at *
  go_loopw [13] (fun I wr => RelP x y u v (0) (0) (0) (0) (0) (0) g b10 b11 b12 w N I wr) (fun I _ => N - (intOf I).toNat)
  case atStart => exact ⟨0, x, y, Nat.zero_le _, rfl, rfl, D0_5.out, D1_5.out, S9_5.out, S10_5.out, S11_5.out, S12_5.out, HB_5.out⟩
  case round =>
    clear D0_5 D1_5 S9_5 S10_5 S11_5 S12_5 HB_5
    obtain ⟨k, p, q, hk, rfl, ht, o0, o1, o2, o3, o4, o5, hb⟩ := hrel
    have HT := Lib.hid ht; have HBr := Lib.hid hb; have D0_r := Lib.hid o0; have D1_r := Lib.hid o1; have S9_r := Lib.hid o2; have S10_r := Lib.hid o3; have S11_r := Lib.hid o4; have S12_r := Lib.hid o5
    clear ht hb o0 o1 o2 o3 o4 o5
    by_cases hlt : k < N
    · have k0 : (k : Int) < (N : Int) := by omega
      have HM := Lib.hid (rturn_any hA.out HT.out)
      have HT' : Hid (Pt.turns (k + 1) ⟨x, y⟩ = ⟨-q, p⟩) := by
        show (Pt.turns k ⟨x, y⟩).turn = _
        rw [HT.out]; rfl
      generalize -q = q' at *
      obtain ⟨c0, c1, f0, f1⟩ := S12_r.out
      go_wp2_with (fail)
      refine (HM.out _).mono ?_
      rintro e w2 ⟨rfl, hb⟩
      have D0_q := Lib.hid ((D0_r.out.next hb).put2 (c := b12) (by have := HH.out; omega) (.int .i64 q') (.int .i64 p))
      have D1_q := Lib.hid ((D1_r.out.next hb).put2 (c := b12) (by have := HH.out; omega) (.int .i64 q') (.int .i64 p))
      have S9_q := Lib.hid ((S9_r.out.next hb).put2 (c := b12) (by have := HH.out; omega) (.int .i64 q') (.int .i64 p))
      have S10_q := Lib.hid ((S10_r.out.next hb).put2 (c := b12) (by have := HH.out; omega) (.int .i64 q') (.int .i64 p))
      have S11_q := Lib.hid ((S11_r.out.next hb).put2 (c := b12) (by have := HH.out; omega) (.int .i64 q') (.int .i64 p))
      have S12_q := Lib.hid ((S12_r.out.next hb).set (.int .i64 q') (.int .i64 p))
      have HBq := Lib.hid (below_put2 (Below.next HBr.out hb) (c := b12) (by have := HH.out; omega) (.int .i64 q') (.int .i64 p))
      obtain ⟨i0, i1, j0, j1⟩ := S12_r.out.next hb
      have hz := (S12_r.out.next hb).lt
      clear hb c0 c1 f0 f1
      go_wp2_with (fail)
      go_roundw
      case rel => exact ⟨k + 1, q', p, hlt, by go_num, HT'.out, D0_q.out, D1_q.out, S9_q.out, S10_q.out, S11_q.out, S12_q.out, HBq.out⟩
      case measure => simp [intOf]; omega
    · obtain rfl : k = N := by omega
      have HTu : Hid (∀ w, Calls Try.prog 19 #[.agg #[.int .i64 x, .int .i64 y], .int .i64 n] w (Gives (.tuple #[.agg #[.int .i64 p, .int .i64 q], .int .i64 0]) w)) := by
        have h := HTn.out; rw [HT.out] at h; exact h
      have HI4 : Hid (∀ w, Calls Try.prog 18 #[.agg #[.int .i64 p, .int .i64 q], .bool true] w (Gives (.tuple #[.agg #[.int .i64 p, .int .i64 q], .int .i64 0]) w)) := Lib.hid fun w => by
        have h := in_true p q w; rw [show rb ⟨p, q⟩ = true by rw [← HT.out]; exact Pt.turns_right _ hA.out] at h; exact h
      clear HT HTn
      obtain ⟨D00, D01, D02, D03⟩ := D0_r.out
      obtain ⟨D10, D11, D12, D13⟩ := D1_r.out
      go_wp2_with (fail)
      clear D00 D01 D02 D03 D10 D11 D12 D13
      refine (HAdd.out _).mono ?_
      rintro e w5_ ⟨rfl, hb⟩
      have D0_6 := Lib.hid (D0_r.out.next hb)
      have D1_6 := Lib.hid (D1_r.out.next hb)
      have S9_6 := Lib.hid (S9_r.out.next hb)
      have S10_6 := Lib.hid (S10_r.out.next hb)
      have S11_6 := Lib.hid (S11_r.out.next hb)
      have S12_6 := Lib.hid (S12_r.out.next hb)
      have HB_6 := Lib.hid (Below.next HBr.out hb)
      clear D0_r D1_r S9_r S10_r S11_r S12_r HBr
      clear hb
      obtain ⟨kb, oS14⟩ := boxes1 23 (.int .i64 s1) (.int .i64 s2) w5_
      have D0_7 := Lib.hid (D0_6.out.next kb)
      have D1_7 := Lib.hid (D1_6.out.next kb)
      have S9_7 := Lib.hid (S9_6.out.next kb)
      have S10_7 := Lib.hid (S10_6.out.next kb)
      have S11_7 := Lib.hid (S11_6.out.next kb)
      have S12_7 := Lib.hid (S12_6.out.next kb)
      have HB_7 := Lib.hid (Below.next HB_6.out kb)
      clear D0_6 D1_6 S9_6 S10_6 S11_6 S12_6 HB_6
      have S14_7 := Lib.hid oS14
      clear kb oS14
      obtain ⟨S90, S91, S92, S93⟩ := S9_7.out
      go_wp2_with (fail)
      generalize w5_.alloc (.cells #[.int .i64 s1, .int .i64 s2] 23) = v7 at *
      generalize w5_.heap.size = g7 at *
      clear S90 S91 S92 S93
      refine (HI1.out _).mono ?_
      rintro e w7_ ⟨rfl, hb⟩
      clear S9_7
      have D0_8 := Lib.hid (D0_7.out.next hb)
      have D1_8 := Lib.hid (D1_7.out.next hb)
      have S10_8 := Lib.hid (S10_7.out.next hb)
      have S11_8 := Lib.hid (S11_7.out.next hb)
      have S12_8 := Lib.hid (S12_7.out.next hb)
      have S14_8 := Lib.hid (S14_7.out.next hb)
      have HB_8 := Lib.hid (Below.next HB_7.out hb)
      clear D0_7 D1_7 S10_7 S11_7 S12_7 S14_7 HB_7
      clear hb
      obtain ⟨kb, oS16⟩ := boxes1 23 (.int .i64 s1) (.int .i64 s2) w7_
      have D0_9 := Lib.hid (D0_8.out.next kb)
      have D1_9 := Lib.hid (D1_8.out.next kb)
      have S10_9 := Lib.hid (S10_8.out.next kb)
      have S11_9 := Lib.hid (S11_8.out.next kb)
      have S12_9 := Lib.hid (S12_8.out.next kb)
      have S14_9 := Lib.hid (S14_8.out.next kb)
      have HB_9 := Lib.hid (Below.next HB_8.out kb)
      clear D0_8 D1_8 S10_8 S11_8 S12_8 S14_8 HB_8
      have S16_9 := Lib.hid oS16
      clear kb oS16
      obtain ⟨D00, D01, D02, D03⟩ := D0_9.out
      obtain ⟨D10, D11, D12, D13⟩ := D1_9.out
      go_wp2_with (fail)
      generalize w7_.alloc (.cells #[.int .i64 s1, .int .i64 s2] 23) = v9 at *
      generalize w7_.heap.size = g9 at *
      clear D00 D01 D02 D03 D10 D11 D12 D13
      refine (HSub.out _).mono ?_
      rintro e w9_ ⟨rfl, hb⟩
      have D0_10 := Lib.hid (D0_9.out.next hb)
      have D1_10 := Lib.hid (D1_9.out.next hb)
      have S10_10 := Lib.hid (S10_9.out.next hb)
      have S11_10 := Lib.hid (S11_9.out.next hb)
      have S12_10 := Lib.hid (S12_9.out.next hb)
      have S14_10 := Lib.hid (S14_9.out.next hb)
      have S16_10 := Lib.hid (S16_9.out.next hb)
      have HB_10 := Lib.hid (Below.next HB_9.out hb)
      clear D0_9 D1_9 S10_9 S11_9 S12_9 S14_9 S16_9 HB_9
      clear hb
      obtain ⟨kb, oS18⟩ := boxes1 23 (.int .i64 d1) (.int .i64 d2) w9_
      have D0_11 := Lib.hid (D0_10.out.next kb)
      have D1_11 := Lib.hid (D1_10.out.next kb)
      have S10_11 := Lib.hid (S10_10.out.next kb)
      have S11_11 := Lib.hid (S11_10.out.next kb)
      have S12_11 := Lib.hid (S12_10.out.next kb)
      have S14_11 := Lib.hid (S14_10.out.next kb)
      have S16_11 := Lib.hid (S16_10.out.next kb)
      have HB_11 := Lib.hid (Below.next HB_10.out kb)
      clear D0_10 D1_10 S10_10 S11_10 S12_10 S14_10 S16_10 HB_10
      have S18_11 := Lib.hid oS18
      clear kb oS18
      obtain ⟨S100, S101, S102, S103⟩ := S10_11.out
      go_wp2_with (fail)
      generalize w9_.alloc (.cells #[.int .i64 d1, .int .i64 d2] 23) = v11 at *
      generalize w9_.heap.size = g11 at *
      clear S100 S101 S102 S103
      refine (HI2.out _).mono ?_
      rintro e w11_ ⟨rfl, hb⟩
      clear S10_11
      have D0_12 := Lib.hid (D0_11.out.next hb)
      have D1_12 := Lib.hid (D1_11.out.next hb)
      have S11_12 := Lib.hid (S11_11.out.next hb)
      have S12_12 := Lib.hid (S12_11.out.next hb)
      have S14_12 := Lib.hid (S14_11.out.next hb)
      have S16_12 := Lib.hid (S16_11.out.next hb)
      have S18_12 := Lib.hid (S18_11.out.next hb)
      have HB_12 := Lib.hid (Below.next HB_11.out hb)
      clear D0_11 D1_11 S11_11 S12_11 S14_11 S16_11 S18_11 HB_11
      clear hb
      obtain ⟨kb, oS20⟩ := boxes1 23 (.int .i64 d1) (.int .i64 d2) w11_
      have D0_13 := Lib.hid (D0_12.out.next kb)
      have D1_13 := Lib.hid (D1_12.out.next kb)
      have S11_13 := Lib.hid (S11_12.out.next kb)
      have S12_13 := Lib.hid (S12_12.out.next kb)
      have S14_13 := Lib.hid (S14_12.out.next kb)
      have S16_13 := Lib.hid (S16_12.out.next kb)
      have S18_13 := Lib.hid (S18_12.out.next kb)
      have HB_13 := Lib.hid (Below.next HB_12.out kb)
      clear D0_12 D1_12 S11_12 S12_12 S14_12 S16_12 S18_12 HB_12
      have S20_13 := Lib.hid oS20
      clear kb oS20
      obtain ⟨D00, D01, D02, D03⟩ := D0_13.out
      obtain ⟨D10, D11, D12, D13⟩ := D1_13.out
      go_wp2_with (fail)
      generalize w11_.alloc (.cells #[.int .i64 d1, .int .i64 d2] 23) = v13 at *
      generalize w11_.heap.size = g13 at *
      clear D00 D01 D02 D03 D10 D11 D12 D13
      refine (HMu.out _).mono ?_
      rintro e w13_ ⟨rfl, hb⟩
      have D0_14 := Lib.hid (D0_13.out.next hb)
      have D1_14 := Lib.hid (D1_13.out.next hb)
      have S11_14 := Lib.hid (S11_13.out.next hb)
      have S12_14 := Lib.hid (S12_13.out.next hb)
      have S14_14 := Lib.hid (S14_13.out.next hb)
      have S16_14 := Lib.hid (S16_13.out.next hb)
      have S18_14 := Lib.hid (S18_13.out.next hb)
      have S20_14 := Lib.hid (S20_13.out.next hb)
      have HB_14 := Lib.hid (Below.next HB_13.out hb)
      clear D0_13 D1_13 S11_13 S12_13 S14_13 S16_13 S18_13 S20_13 HB_13
      clear hb
      obtain ⟨kb, oS22⟩ := boxes1 23 (.int .i64 p1) (.int .i64 p2) w13_
      have D0_15 := Lib.hid (D0_14.out.next kb)
      have D1_15 := Lib.hid (D1_14.out.next kb)
      have S11_15 := Lib.hid (S11_14.out.next kb)
      have S12_15 := Lib.hid (S12_14.out.next kb)
      have S14_15 := Lib.hid (S14_14.out.next kb)
      have S16_15 := Lib.hid (S16_14.out.next kb)
      have S18_15 := Lib.hid (S18_14.out.next kb)
      have S20_15 := Lib.hid (S20_14.out.next kb)
      have HB_15 := Lib.hid (Below.next HB_14.out kb)
      clear D0_14 D1_14 S11_14 S12_14 S14_14 S16_14 S18_14 S20_14 HB_14
      have S22_15 := Lib.hid oS22
      clear kb oS22
      obtain ⟨S110, S111, S112, S113⟩ := S11_15.out
      go_wp2_with (fail)
      generalize w13_.alloc (.cells #[.int .i64 p1, .int .i64 p2] 23) = v15 at *
      generalize w13_.heap.size = g15 at *
      clear S110 S111 S112 S113
      refine (HI3.out _).mono ?_
      rintro e w15_ ⟨rfl, hb⟩
      clear S11_15
      have D0_16 := Lib.hid (D0_15.out.next hb)
      have D1_16 := Lib.hid (D1_15.out.next hb)
      have S12_16 := Lib.hid (S12_15.out.next hb)
      have S14_16 := Lib.hid (S14_15.out.next hb)
      have S16_16 := Lib.hid (S16_15.out.next hb)
      have S18_16 := Lib.hid (S18_15.out.next hb)
      have S20_16 := Lib.hid (S20_15.out.next hb)
      have S22_16 := Lib.hid (S22_15.out.next hb)
      have HB_16 := Lib.hid (Below.next HB_15.out hb)
      clear D0_15 D1_15 S12_15 S14_15 S16_15 S18_15 S20_15 S22_15 HB_15
      clear hb
      obtain ⟨kb, oS24⟩ := boxes1 23 (.int .i64 p1) (.int .i64 p2) w15_
      have D0_17 := Lib.hid (D0_16.out.next kb)
      have D1_17 := Lib.hid (D1_16.out.next kb)
      have S12_17 := Lib.hid (S12_16.out.next kb)
      have S14_17 := Lib.hid (S14_16.out.next kb)
      have S16_17 := Lib.hid (S16_16.out.next kb)
      have S18_17 := Lib.hid (S18_16.out.next kb)
      have S20_17 := Lib.hid (S20_16.out.next kb)
      have S22_17 := Lib.hid (S22_16.out.next kb)
      have HB_17 := Lib.hid (Below.next HB_16.out kb)
      clear D0_16 D1_16 S12_16 S14_16 S16_16 S18_16 S20_16 S22_16 HB_16
      have S24_17 := Lib.hid oS24
      clear kb oS24
      obtain ⟨D00, D01, D02, D03⟩ := D0_17.out
      go_wp2_with (fail)
      generalize w15_.alloc (.cells #[.int .i64 p1, .int .i64 p2] 23) = v17 at *
      generalize w15_.heap.size = g17 at *
      clear D00 D01 D02 D03
      refine (HTu.out _).mono ?_
      rintro e w17_ ⟨rfl, hb⟩
      have D0_18 := Lib.hid (D0_17.out.next hb)
      have D1_18 := Lib.hid (D1_17.out.next hb)
      have S12_18 := Lib.hid (S12_17.out.next hb)
      have S14_18 := Lib.hid (S14_17.out.next hb)
      have S16_18 := Lib.hid (S16_17.out.next hb)
      have S18_18 := Lib.hid (S18_17.out.next hb)
      have S20_18 := Lib.hid (S20_17.out.next hb)
      have S22_18 := Lib.hid (S22_17.out.next hb)
      have S24_18 := Lib.hid (S24_17.out.next hb)
      have HB_18 := Lib.hid (Below.next HB_17.out hb)
      clear D0_17 D1_17 S12_17 S14_17 S16_17 S18_17 S20_17 S22_17 S24_17 HB_17
      clear hb
      obtain ⟨kb, oS26⟩ := boxes1 23 (.int .i64 p) (.int .i64 q) w17_
      have D0_19 := Lib.hid (D0_18.out.next kb)
      have D1_19 := Lib.hid (D1_18.out.next kb)
      have S12_19 := Lib.hid (S12_18.out.next kb)
      have S14_19 := Lib.hid (S14_18.out.next kb)
      have S16_19 := Lib.hid (S16_18.out.next kb)
      have S18_19 := Lib.hid (S18_18.out.next kb)
      have S20_19 := Lib.hid (S20_18.out.next kb)
      have S22_19 := Lib.hid (S22_18.out.next kb)
      have S24_19 := Lib.hid (S24_18.out.next kb)
      have HB_19 := Lib.hid (Below.next HB_18.out kb)
      clear D0_18 D1_18 S12_18 S14_18 S16_18 S18_18 S20_18 S22_18 S24_18 HB_18
      have S26_19 := Lib.hid oS26
      clear kb oS26
      obtain ⟨S120, S121, S122, S123⟩ := S12_19.out
      go_wp2_with (fail)
      generalize w17_.alloc (.cells #[.int .i64 p, .int .i64 q] 23) = v19 at *
      generalize w17_.heap.size = g19 at *
      clear S120 S121 S122 S123
      refine (HI4.out _).mono ?_
      rintro e w19_ ⟨rfl, hb⟩
      clear S12_19
      have D0_20 := Lib.hid (D0_19.out.next hb)
      have D1_20 := Lib.hid (D1_19.out.next hb)
      have S14_20 := Lib.hid (S14_19.out.next hb)
      have S16_20 := Lib.hid (S16_19.out.next hb)
      have S18_20 := Lib.hid (S18_19.out.next hb)
      have S20_20 := Lib.hid (S20_19.out.next hb)
      have S22_20 := Lib.hid (S22_19.out.next hb)
      have S24_20 := Lib.hid (S24_19.out.next hb)
      have S26_20 := Lib.hid (S26_19.out.next hb)
      have HB_20 := Lib.hid (Below.next HB_19.out hb)
      clear D0_19 D1_19 S14_19 S16_19 S18_19 S20_19 S22_19 S24_19 S26_19 HB_19
      clear hb
      obtain ⟨kb, oS28⟩ := boxes1 23 (.int .i64 p) (.int .i64 q) w19_
      have D0_21 := Lib.hid (D0_20.out.next kb)
      have D1_21 := Lib.hid (D1_20.out.next kb)
      have S14_21 := Lib.hid (S14_20.out.next kb)
      have S16_21 := Lib.hid (S16_20.out.next kb)
      have S18_21 := Lib.hid (S18_20.out.next kb)
      have S20_21 := Lib.hid (S20_20.out.next kb)
      have S22_21 := Lib.hid (S22_20.out.next kb)
      have S24_21 := Lib.hid (S24_20.out.next kb)
      have S26_21 := Lib.hid (S26_20.out.next kb)
      have HB_21 := Lib.hid (Below.next HB_20.out kb)
      clear D0_20 D1_20 S14_20 S16_20 S18_20 S20_20 S22_20 S24_20 S26_20 HB_20
      have S28_21 := Lib.hid oS28
      clear kb oS28
      obtain ⟨D00, D01, D02, D03⟩ := D0_21.out
      go_wp2_with (fail)
      generalize w19_.alloc (.cells #[.int .i64 p, .int .i64 q] 23) = v21 at *
      generalize w19_.heap.size = g21 at *
      clear D00 D01 D02 D03
      refine (HCo.out _).mono ?_
      rintro e w21_ ⟨rfl, hb⟩
      have D0_22 := Lib.hid (D0_21.out.next hb)
      have D1_22 := Lib.hid (D1_21.out.next hb)
      have S14_22 := Lib.hid (S14_21.out.next hb)
      have S16_22 := Lib.hid (S16_21.out.next hb)
      have S18_22 := Lib.hid (S18_21.out.next hb)
      have S20_22 := Lib.hid (S20_21.out.next hb)
      have S22_22 := Lib.hid (S22_21.out.next hb)
      have S24_22 := Lib.hid (S24_21.out.next hb)
      have S26_22 := Lib.hid (S26_21.out.next hb)
      have S28_22 := Lib.hid (S28_21.out.next hb)
      have HB_22 := Lib.hid (Below.next HB_21.out hb)
      clear D0_21 D1_21 S14_21 S16_21 S18_21 S20_21 S22_21 S24_21 S26_21 S28_21 HB_21
      clear hb
      obtain ⟨kb, oS30⟩ := boxes1 23 (.int .i64 x) (.int .i64 (-y)) w21_
      have D0_23 := Lib.hid (D0_22.out.next kb)
      have D1_23 := Lib.hid (D1_22.out.next kb)
      have S14_23 := Lib.hid (S14_22.out.next kb)
      have S16_23 := Lib.hid (S16_22.out.next kb)
      have S18_23 := Lib.hid (S18_22.out.next kb)
      have S20_23 := Lib.hid (S20_22.out.next kb)
      have S22_23 := Lib.hid (S22_22.out.next kb)
      have S24_23 := Lib.hid (S24_22.out.next kb)
      have S26_23 := Lib.hid (S26_22.out.next kb)
      have S28_23 := Lib.hid (S28_22.out.next kb)
      have HB_23 := Lib.hid (Below.next HB_22.out kb)
      clear D0_22 D1_22 S14_22 S16_22 S18_22 S20_22 S22_22 S24_22 S26_22 S28_22 HB_22
      have S30_23 := Lib.hid oS30
      clear kb oS30
      obtain ⟨D00, D01, D02, D03⟩ := D0_23.out
      go_wp2_with (fail)
      generalize w21_.alloc (.cells #[.int .i64 x, .int .i64 (-y)] 23) = v23 at *
      generalize w21_.heap.size = g23 at *
      clear D00 D01 D02 D03
      refine (HNo.out _).mono ?_
      rintro e w23_ ⟨rfl, hb⟩
      have D0_24 := Lib.hid (D0_23.out.next hb)
      have D1_24 := Lib.hid (D1_23.out.next hb)
      have S14_24 := Lib.hid (S14_23.out.next hb)
      have S16_24 := Lib.hid (S16_23.out.next hb)
      have S18_24 := Lib.hid (S18_23.out.next hb)
      have S20_24 := Lib.hid (S20_23.out.next hb)
      have S22_24 := Lib.hid (S22_23.out.next hb)
      have S24_24 := Lib.hid (S24_23.out.next hb)
      have S26_24 := Lib.hid (S26_23.out.next hb)
      have S28_24 := Lib.hid (S28_23.out.next hb)
      have S30_24 := Lib.hid (S30_23.out.next hb)
      have HB_24 := Lib.hid (Below.next HB_23.out hb)
      clear D0_23 D1_23 S14_23 S16_23 S18_23 S20_23 S22_23 S24_23 S26_23 S28_23 S30_23 HB_23
      clear hb
      obtain ⟨S140, S141, S142, S143⟩ := S14_24.out
      obtain ⟨S160, S161, S162, S163⟩ := S16_24.out
      obtain ⟨S180, S181, S182, S183⟩ := S18_24.out
      obtain ⟨S200, S201, S202, S203⟩ := S20_24.out
      obtain ⟨S220, S221, S222, S223⟩ := S22_24.out
      obtain ⟨S240, S241, S242, S243⟩ := S24_24.out
      obtain ⟨S260, S261, S262, S263⟩ := S26_24.out
      obtain ⟨S280, S281, S282, S283⟩ := S28_24.out
      obtain ⟨S300, S301, S302, S303⟩ := S30_24.out
      obtain ⟨D00, D01, D02, D03⟩ := D0_24.out
      go_wp2_with (fail)
      clear S140 S141 S142 S143 S160 S161 S162 S163 S180 S181 S182 S183 S200 S201 S202 S203 S220 S221 S222 S223 S240 S241 S242 S243 S260 S261 S262 S263 S280 S281 S282 S283 S300 S301 S302 S303 D00 D01 D02 D03
      refine (HRN.out _).mono ?_
      rintro e w24_ ⟨rfl, hb⟩
      clear S14_24
      clear S16_24
      clear S18_24
      clear S20_24
      clear S22_24
      clear S24_24
      clear S26_24
      clear S28_24
      clear S30_24
      have D0_25 := Lib.hid (D0_24.out.next hb)
      have D1_25 := Lib.hid (D1_24.out.next hb)
      have HB_25 := Lib.hid (Below.next HB_24.out hb)
      clear D0_24 D1_24 HB_24
      clear hb
      go_wp2_with (fail)
      rcases hl with ⟨g1, HL⟩ | ⟨g1, g2, g3, HL⟩ | ⟨g1, g2, g3, HL⟩ | ⟨g1, g2, HL⟩
      all_goals
        have qD00 := fun (r : Over w24_) => (D0_25.out.over r).c0
        have qD01 := fun (r : Over w24_) => (D0_25.out.over r).c1
        have qD10 := fun (r : Over w24_) => (D1_25.out.over r).c0
        have qD11 := fun (r : Over w24_) => (D1_25.out.over r).c1
        refine wp_over (by kernel_rfl) (by kernel_rfl) ?_
        repeat (go_big_quiet_step (first | fail | with_reducible exact over_gives _ (HR.out _) | with_reducible exact over_gives _ (HL.out _)))
        refine wpQuiet_nil ?_
        rintro w25q ⟨⟨w25q, hb⟩, rfl⟩
        clear qD00 qD01 qD10 qD11
        have D0_26 := Lib.hid (D0_25.out.next hb)
        have D1_26 := Lib.hid (D1_25.out.next hb)
        have HB_26 := Lib.hid (Below.next HB_25.out hb)
        clear D0_25 D1_25 HB_25
        clear hb
        go_wp2_with (fail)
        go_ret
        exact ⟨rfl, HB_26.out⟩
set_option maxRecDepth 100000 in
set_option maxHeartbeats 8000000 in
theorem ff {x y u v n s1 s2 e1 d1 d2 e2 p1 p2 e3 : Int} (w : World)
    (HRa : Hid (∀ w, Calls Try.prog 16 #[.agg #[.int .i64 x, .int .i64 y]] w (Gives (.bool false) w)))
    (HAdd : Hid (∀ w, Calls Try.prog 11 #[.agg #[.int .i64 x, .int .i64 y], .agg #[.int .i64 u, .int .i64 v]] w (Gives (.tuple #[.agg #[.int .i64 s1, .int .i64 s2], .int .i64 e1]) w)))
    (HI1 : Hid (∀ w, Calls Try.prog 18 #[.agg #[.int .i64 0, .int .i64 0], .bool false] w (Gives (.tuple #[.agg #[.int .i64 s1, .int .i64 s2], .int .i64 e1]) w)))
    (HSub : Hid (∀ w, Calls Try.prog 12 #[.agg #[.int .i64 x, .int .i64 y], .agg #[.int .i64 u, .int .i64 v]] w (Gives (.tuple #[.agg #[.int .i64 d1, .int .i64 d2], .int .i64 e2]) w)))
    (HI2 : Hid (∀ w, Calls Try.prog 18 #[.agg #[.int .i64 0, .int .i64 0], .bool false] w (Gives (.tuple #[.agg #[.int .i64 d1, .int .i64 d2], .int .i64 e2]) w)))
    (HMu : Hid (∀ w, Calls Try.prog 10 #[.agg #[.int .i64 x, .int .i64 y], .agg #[.int .i64 u, .int .i64 v]] w (Gives (.tuple #[.agg #[.int .i64 p1, .int .i64 p2], .int .i64 e3]) w)))
    (HI3 : Hid (∀ w, Calls Try.prog 18 #[.agg #[.int .i64 0, .int .i64 0], .bool false] w (Gives (.tuple #[.agg #[.int .i64 p1, .int .i64 p2], .int .i64 e3]) w)))
    (HCo : Hid (∀ w, Calls Try.prog 20 #[.agg #[.int .i64 x, .int .i64 y]] w (Gives (.tuple #[.agg #[.int .i64 0, .int .i64 0], .int .i64 14]) w)))
    (HNo : Hid (∀ w, Calls Try.prog 13 #[.agg #[.int .i64 x, .int .i64 y]] w (Gives (.tuple #[.int .i64 0, .int .i64 14]) w)))
    (HTu : Hid (∀ w, Calls Try.prog 19 #[.agg #[.int .i64 x, .int .i64 y], .int .i64 n] w (Gives (.tuple #[.agg #[.int .i64 0, .int .i64 0], .int .i64 14]) w)))
    (HI4 : Hid (∀ w, Calls Try.prog 18 #[.agg #[.int .i64 0, .int .i64 0], .bool false] w (Gives (.tuple #[.agg #[.int .i64 0, .int .i64 0], .int .i64 14]) w)))
    (HR : Hid (∀ w, Calls Try.prog 22 #[.agg #[.int .i64 x, .int .i64 y]] w (Gives (.bool false) w)))
    (hl : (x < u ∧ Hid (∀ w, Calls Try.prog 23 #[.agg #[.int .i64 x, .int .i64 y], .agg #[.int .i64 u, .int .i64 v]] w (Gives (.bool true) w))) ∨ (decide (x < u) = false ∧ (x == u) = true ∧ y < v ∧ Hid (∀ w, Calls Try.prog 23 #[.agg #[.int .i64 x, .int .i64 y], .agg #[.int .i64 u, .int .i64 v]] w (Gives (.bool true) w))) ∨ (decide (x < u) = false ∧ (x == u) = true ∧ decide (y < v) = false ∧ Hid (∀ w, Calls Try.prog 23 #[.agg #[.int .i64 x, .int .i64 y], .agg #[.int .i64 u, .int .i64 v]] w (Gives (.bool false) w))) ∨ (decide (x < u) = false ∧ (x == u) = false ∧ Hid (∀ w, Calls Try.prog 23 #[.agg #[.int .i64 x, .int .i64 y], .agg #[.int .i64 u, .int .i64 v]] w (Gives (.bool false) w)))) : Calls Try.prog 6 #[.agg #[.int .i64 x, .int .i64 y], .agg #[.int .i64 u, .int .i64 v], .int .i64 n] w (Gives (.bool true) w) := by
  go_enter Try.func6, Try.ntmps6
  go_wp2_with (fail)
  obtain ⟨kb, oD0, oD1⟩ := boxes2 23 (.int .i64 x) (.int .i64 y) (.int .i64 u) (.int .i64 v) w
  have HB_1 := Lib.hid kb
  have D0_1 := Lib.hid oD0
  have D1_1 := Lib.hid oD1
  clear kb oD0 oD1
  generalize (w.alloc (.cells #[.int .i64 x, .int .i64 y] 23)).alloc (.cells #[.int .i64 u, .int .i64 v] 23) = v1 at *
  refine (awake_any _).mono ?_
  rintro e w1_ ⟨rfl, hb⟩
  have D0_2 := Lib.hid (D0_1.out.next hb)
  have D1_2 := Lib.hid (D1_1.out.next hb)
  have HB_2 := Lib.hid (Below.next HB_1.out hb)
  clear D0_1 D1_1 HB_1
  clear hb
  go_wp2_with (fail)
  have qD00 := fun (r : Over w1_) => (D0_2.out.over r).c0
  have qD01 := fun (r : Over w1_) => (D0_2.out.over r).c1
  have qD10 := fun (r : Over w1_) => (D1_2.out.over r).c0
  have qD11 := fun (r : Over w1_) => (D1_2.out.over r).c1
  refine wp_over (by kernel_rfl) (by kernel_rfl) ?_
  repeat (go_big_quiet_step (first | fail | with_reducible exact over_gives _ (HRa.out _)))
  refine wpQuiet_nil ?_
  rintro w2q ⟨⟨w2q, hb⟩, rfl⟩
  clear qD00 qD01 qD10 qD11
  have D0_3 := Lib.hid (D0_2.out.next hb)
  have D1_3 := Lib.hid (D1_2.out.next hb)
  have HB_3 := Lib.hid (Below.next HB_2.out hb)
  clear D0_2 D1_2 HB_2
  clear hb
  have hlt := D1_3.out.lt
  obtain ⟨kb, oS9, oS10, oS11, oS12⟩ := boxes4 23 (.int .i64 0) (.int .i64 0) (.int .i64 0) (.int .i64 0) (.int .i64 0) (.int .i64 0) (.int .i64 0) (.int .i64 0) w2q
  have D0_4 := Lib.hid (D0_3.out.next kb)
  have D1_4 := Lib.hid (D1_3.out.next kb)
  have HB_4 := Lib.hid (Below.next HB_3.out kb)
  clear D0_3 D1_3 HB_3
  have S9_4 := Lib.hid oS9
  have S10_4 := Lib.hid oS10
  have S11_4 := Lib.hid oS11
  have S12_4 := Lib.hid oS12
  clear kb oS9 oS10 oS11 oS12
  go_upto_region 5 with (fail)
  generalize (((w2q.alloc (.cells #[.int .i64 0, .int .i64 0] 23)).alloc (.cells #[.int .i64 0, .int .i64 0] 23)).alloc (.cells #[.int .i64 0, .int .i64 0] 23)).alloc (.cells #[.int .i64 0, .int .i64 0] 23) = v0 at *
  generalize w2q.heap.size = g at *
  generalize hb12 : g + 1 + 1 + 1 = b12 at *
  generalize hb11 : g + 1 + 1 = b11 at *
  generalize hb10 : g + 1 = b10 at *
  have HH : Hid (w.heap.size + 1 < g ∧ g < b10 ∧ b10 < b11 ∧ b11 < b12) := Lib.hid (by omega)
  clear hlt hb10 hb11 hb12
  obtain ⟨D00, D01, D02, D03⟩ := D0_4.out
  obtain ⟨D10, D11, D12, D13⟩ := D1_4.out
  go_wp2_with (fail)
  clear D00 D01 D02 D03 D10 D11 D12 D13
  refine (HAdd.out _).mono ?_
  rintro e w4_ ⟨rfl, hb⟩
  have D0_5 := Lib.hid (D0_4.out.next hb)
  have D1_5 := Lib.hid (D1_4.out.next hb)
  have S9_5 := Lib.hid (S9_4.out.next hb)
  have S10_5 := Lib.hid (S10_4.out.next hb)
  have S11_5 := Lib.hid (S11_4.out.next hb)
  have S12_5 := Lib.hid (S12_4.out.next hb)
  have HB_5 := Lib.hid (Below.next HB_4.out hb)
  clear D0_4 D1_4 S9_4 S10_4 S11_4 S12_4 HB_4
  clear hb
  obtain ⟨kb, oS14⟩ := boxes1 23 (.int .i64 s1) (.int .i64 s2) w4_
  have D0_6 := Lib.hid (D0_5.out.next kb)
  have D1_6 := Lib.hid (D1_5.out.next kb)
  have S9_6 := Lib.hid (S9_5.out.next kb)
  have S10_6 := Lib.hid (S10_5.out.next kb)
  have S11_6 := Lib.hid (S11_5.out.next kb)
  have S12_6 := Lib.hid (S12_5.out.next kb)
  have HB_6 := Lib.hid (Below.next HB_5.out kb)
  clear D0_5 D1_5 S9_5 S10_5 S11_5 S12_5 HB_5
  have S14_6 := Lib.hid oS14
  clear kb oS14
  obtain ⟨S90, S91, S92, S93⟩ := S9_6.out
  go_wp2_with (fail)
  generalize w4_.alloc (.cells #[.int .i64 s1, .int .i64 s2] 23) = v6 at *
  generalize w4_.heap.size = g6 at *
  clear S90 S91 S92 S93
  refine (HI1.out _).mono ?_
  rintro e w6_ ⟨rfl, hb⟩
  clear S9_6
  have D0_7 := Lib.hid (D0_6.out.next hb)
  have D1_7 := Lib.hid (D1_6.out.next hb)
  have S10_7 := Lib.hid (S10_6.out.next hb)
  have S11_7 := Lib.hid (S11_6.out.next hb)
  have S12_7 := Lib.hid (S12_6.out.next hb)
  have S14_7 := Lib.hid (S14_6.out.next hb)
  have HB_7 := Lib.hid (Below.next HB_6.out hb)
  clear D0_6 D1_6 S10_6 S11_6 S12_6 S14_6 HB_6
  clear hb
  obtain ⟨kb, oS16⟩ := boxes1 23 (.int .i64 s1) (.int .i64 s2) w6_
  have D0_8 := Lib.hid (D0_7.out.next kb)
  have D1_8 := Lib.hid (D1_7.out.next kb)
  have S10_8 := Lib.hid (S10_7.out.next kb)
  have S11_8 := Lib.hid (S11_7.out.next kb)
  have S12_8 := Lib.hid (S12_7.out.next kb)
  have S14_8 := Lib.hid (S14_7.out.next kb)
  have HB_8 := Lib.hid (Below.next HB_7.out kb)
  clear D0_7 D1_7 S10_7 S11_7 S12_7 S14_7 HB_7
  have S16_8 := Lib.hid oS16
  clear kb oS16
  obtain ⟨D00, D01, D02, D03⟩ := D0_8.out
  obtain ⟨D10, D11, D12, D13⟩ := D1_8.out
  go_wp2_with (fail)
  generalize w6_.alloc (.cells #[.int .i64 s1, .int .i64 s2] 23) = v8 at *
  generalize w6_.heap.size = g8 at *
  clear D00 D01 D02 D03 D10 D11 D12 D13
  refine (HSub.out _).mono ?_
  rintro e w8_ ⟨rfl, hb⟩
  have D0_9 := Lib.hid (D0_8.out.next hb)
  have D1_9 := Lib.hid (D1_8.out.next hb)
  have S10_9 := Lib.hid (S10_8.out.next hb)
  have S11_9 := Lib.hid (S11_8.out.next hb)
  have S12_9 := Lib.hid (S12_8.out.next hb)
  have S14_9 := Lib.hid (S14_8.out.next hb)
  have S16_9 := Lib.hid (S16_8.out.next hb)
  have HB_9 := Lib.hid (Below.next HB_8.out hb)
  clear D0_8 D1_8 S10_8 S11_8 S12_8 S14_8 S16_8 HB_8
  clear hb
  obtain ⟨kb, oS18⟩ := boxes1 23 (.int .i64 d1) (.int .i64 d2) w8_
  have D0_10 := Lib.hid (D0_9.out.next kb)
  have D1_10 := Lib.hid (D1_9.out.next kb)
  have S10_10 := Lib.hid (S10_9.out.next kb)
  have S11_10 := Lib.hid (S11_9.out.next kb)
  have S12_10 := Lib.hid (S12_9.out.next kb)
  have S14_10 := Lib.hid (S14_9.out.next kb)
  have S16_10 := Lib.hid (S16_9.out.next kb)
  have HB_10 := Lib.hid (Below.next HB_9.out kb)
  clear D0_9 D1_9 S10_9 S11_9 S12_9 S14_9 S16_9 HB_9
  have S18_10 := Lib.hid oS18
  clear kb oS18
  obtain ⟨S100, S101, S102, S103⟩ := S10_10.out
  go_wp2_with (fail)
  generalize w8_.alloc (.cells #[.int .i64 d1, .int .i64 d2] 23) = v10 at *
  generalize w8_.heap.size = g10 at *
  clear S100 S101 S102 S103
  refine (HI2.out _).mono ?_
  rintro e w10_ ⟨rfl, hb⟩
  clear S10_10
  have D0_11 := Lib.hid (D0_10.out.next hb)
  have D1_11 := Lib.hid (D1_10.out.next hb)
  have S11_11 := Lib.hid (S11_10.out.next hb)
  have S12_11 := Lib.hid (S12_10.out.next hb)
  have S14_11 := Lib.hid (S14_10.out.next hb)
  have S16_11 := Lib.hid (S16_10.out.next hb)
  have S18_11 := Lib.hid (S18_10.out.next hb)
  have HB_11 := Lib.hid (Below.next HB_10.out hb)
  clear D0_10 D1_10 S11_10 S12_10 S14_10 S16_10 S18_10 HB_10
  clear hb
  obtain ⟨kb, oS20⟩ := boxes1 23 (.int .i64 d1) (.int .i64 d2) w10_
  have D0_12 := Lib.hid (D0_11.out.next kb)
  have D1_12 := Lib.hid (D1_11.out.next kb)
  have S11_12 := Lib.hid (S11_11.out.next kb)
  have S12_12 := Lib.hid (S12_11.out.next kb)
  have S14_12 := Lib.hid (S14_11.out.next kb)
  have S16_12 := Lib.hid (S16_11.out.next kb)
  have S18_12 := Lib.hid (S18_11.out.next kb)
  have HB_12 := Lib.hid (Below.next HB_11.out kb)
  clear D0_11 D1_11 S11_11 S12_11 S14_11 S16_11 S18_11 HB_11
  have S20_12 := Lib.hid oS20
  clear kb oS20
  obtain ⟨D00, D01, D02, D03⟩ := D0_12.out
  obtain ⟨D10, D11, D12, D13⟩ := D1_12.out
  go_wp2_with (fail)
  generalize w10_.alloc (.cells #[.int .i64 d1, .int .i64 d2] 23) = v12 at *
  generalize w10_.heap.size = g12 at *
  clear D00 D01 D02 D03 D10 D11 D12 D13
  refine (HMu.out _).mono ?_
  rintro e w12_ ⟨rfl, hb⟩
  have D0_13 := Lib.hid (D0_12.out.next hb)
  have D1_13 := Lib.hid (D1_12.out.next hb)
  have S11_13 := Lib.hid (S11_12.out.next hb)
  have S12_13 := Lib.hid (S12_12.out.next hb)
  have S14_13 := Lib.hid (S14_12.out.next hb)
  have S16_13 := Lib.hid (S16_12.out.next hb)
  have S18_13 := Lib.hid (S18_12.out.next hb)
  have S20_13 := Lib.hid (S20_12.out.next hb)
  have HB_13 := Lib.hid (Below.next HB_12.out hb)
  clear D0_12 D1_12 S11_12 S12_12 S14_12 S16_12 S18_12 S20_12 HB_12
  clear hb
  obtain ⟨kb, oS22⟩ := boxes1 23 (.int .i64 p1) (.int .i64 p2) w12_
  have D0_14 := Lib.hid (D0_13.out.next kb)
  have D1_14 := Lib.hid (D1_13.out.next kb)
  have S11_14 := Lib.hid (S11_13.out.next kb)
  have S12_14 := Lib.hid (S12_13.out.next kb)
  have S14_14 := Lib.hid (S14_13.out.next kb)
  have S16_14 := Lib.hid (S16_13.out.next kb)
  have S18_14 := Lib.hid (S18_13.out.next kb)
  have S20_14 := Lib.hid (S20_13.out.next kb)
  have HB_14 := Lib.hid (Below.next HB_13.out kb)
  clear D0_13 D1_13 S11_13 S12_13 S14_13 S16_13 S18_13 S20_13 HB_13
  have S22_14 := Lib.hid oS22
  clear kb oS22
  obtain ⟨S110, S111, S112, S113⟩ := S11_14.out
  go_wp2_with (fail)
  generalize w12_.alloc (.cells #[.int .i64 p1, .int .i64 p2] 23) = v14 at *
  generalize w12_.heap.size = g14 at *
  clear S110 S111 S112 S113
  refine (HI3.out _).mono ?_
  rintro e w14_ ⟨rfl, hb⟩
  clear S11_14
  have D0_15 := Lib.hid (D0_14.out.next hb)
  have D1_15 := Lib.hid (D1_14.out.next hb)
  have S12_15 := Lib.hid (S12_14.out.next hb)
  have S14_15 := Lib.hid (S14_14.out.next hb)
  have S16_15 := Lib.hid (S16_14.out.next hb)
  have S18_15 := Lib.hid (S18_14.out.next hb)
  have S20_15 := Lib.hid (S20_14.out.next hb)
  have S22_15 := Lib.hid (S22_14.out.next hb)
  have HB_15 := Lib.hid (Below.next HB_14.out hb)
  clear D0_14 D1_14 S12_14 S14_14 S16_14 S18_14 S20_14 S22_14 HB_14
  clear hb
  obtain ⟨kb, oS24⟩ := boxes1 23 (.int .i64 p1) (.int .i64 p2) w14_
  have D0_16 := Lib.hid (D0_15.out.next kb)
  have D1_16 := Lib.hid (D1_15.out.next kb)
  have S12_16 := Lib.hid (S12_15.out.next kb)
  have S14_16 := Lib.hid (S14_15.out.next kb)
  have S16_16 := Lib.hid (S16_15.out.next kb)
  have S18_16 := Lib.hid (S18_15.out.next kb)
  have S20_16 := Lib.hid (S20_15.out.next kb)
  have S22_16 := Lib.hid (S22_15.out.next kb)
  have HB_16 := Lib.hid (Below.next HB_15.out kb)
  clear D0_15 D1_15 S12_15 S14_15 S16_15 S18_15 S20_15 S22_15 HB_15
  have S24_16 := Lib.hid oS24
  clear kb oS24
  obtain ⟨D00, D01, D02, D03⟩ := D0_16.out
  go_wp2_with (fail)
  generalize w14_.alloc (.cells #[.int .i64 p1, .int .i64 p2] 23) = v16 at *
  generalize w14_.heap.size = g16 at *
  clear D00 D01 D02 D03
  refine (HTu.out _).mono ?_
  rintro e w16_ ⟨rfl, hb⟩
  have D0_17 := Lib.hid (D0_16.out.next hb)
  have D1_17 := Lib.hid (D1_16.out.next hb)
  have S12_17 := Lib.hid (S12_16.out.next hb)
  have S14_17 := Lib.hid (S14_16.out.next hb)
  have S16_17 := Lib.hid (S16_16.out.next hb)
  have S18_17 := Lib.hid (S18_16.out.next hb)
  have S20_17 := Lib.hid (S20_16.out.next hb)
  have S22_17 := Lib.hid (S22_16.out.next hb)
  have S24_17 := Lib.hid (S24_16.out.next hb)
  have HB_17 := Lib.hid (Below.next HB_16.out hb)
  clear D0_16 D1_16 S12_16 S14_16 S16_16 S18_16 S20_16 S22_16 S24_16 HB_16
  clear hb
  obtain ⟨kb, oS26⟩ := boxes1 23 (.int .i64 0) (.int .i64 0) w16_
  have D0_18 := Lib.hid (D0_17.out.next kb)
  have D1_18 := Lib.hid (D1_17.out.next kb)
  have S12_18 := Lib.hid (S12_17.out.next kb)
  have S14_18 := Lib.hid (S14_17.out.next kb)
  have S16_18 := Lib.hid (S16_17.out.next kb)
  have S18_18 := Lib.hid (S18_17.out.next kb)
  have S20_18 := Lib.hid (S20_17.out.next kb)
  have S22_18 := Lib.hid (S22_17.out.next kb)
  have S24_18 := Lib.hid (S24_17.out.next kb)
  have HB_18 := Lib.hid (Below.next HB_17.out kb)
  clear D0_17 D1_17 S12_17 S14_17 S16_17 S18_17 S20_17 S22_17 S24_17 HB_17
  have S26_18 := Lib.hid oS26
  clear kb oS26
  obtain ⟨S120, S121, S122, S123⟩ := S12_18.out
  go_wp2_with (fail)
  generalize w16_.alloc (.cells #[.int .i64 0, .int .i64 0] 23) = v18 at *
  generalize w16_.heap.size = g18 at *
  clear S120 S121 S122 S123
  refine (HI4.out _).mono ?_
  rintro e w18_ ⟨rfl, hb⟩
  clear S12_18
  have D0_19 := Lib.hid (D0_18.out.next hb)
  have D1_19 := Lib.hid (D1_18.out.next hb)
  have S14_19 := Lib.hid (S14_18.out.next hb)
  have S16_19 := Lib.hid (S16_18.out.next hb)
  have S18_19 := Lib.hid (S18_18.out.next hb)
  have S20_19 := Lib.hid (S20_18.out.next hb)
  have S22_19 := Lib.hid (S22_18.out.next hb)
  have S24_19 := Lib.hid (S24_18.out.next hb)
  have S26_19 := Lib.hid (S26_18.out.next hb)
  have HB_19 := Lib.hid (Below.next HB_18.out hb)
  clear D0_18 D1_18 S14_18 S16_18 S18_18 S20_18 S22_18 S24_18 S26_18 HB_18
  clear hb
  obtain ⟨kb, oS28⟩ := boxes1 23 (.int .i64 0) (.int .i64 0) w18_
  have D0_20 := Lib.hid (D0_19.out.next kb)
  have D1_20 := Lib.hid (D1_19.out.next kb)
  have S14_20 := Lib.hid (S14_19.out.next kb)
  have S16_20 := Lib.hid (S16_19.out.next kb)
  have S18_20 := Lib.hid (S18_19.out.next kb)
  have S20_20 := Lib.hid (S20_19.out.next kb)
  have S22_20 := Lib.hid (S22_19.out.next kb)
  have S24_20 := Lib.hid (S24_19.out.next kb)
  have S26_20 := Lib.hid (S26_19.out.next kb)
  have HB_20 := Lib.hid (Below.next HB_19.out kb)
  clear D0_19 D1_19 S14_19 S16_19 S18_19 S20_19 S22_19 S24_19 S26_19 HB_19
  have S28_20 := Lib.hid oS28
  clear kb oS28
  obtain ⟨D00, D01, D02, D03⟩ := D0_20.out
  go_wp2_with (fail)
  generalize w18_.alloc (.cells #[.int .i64 0, .int .i64 0] 23) = v20 at *
  generalize w18_.heap.size = g20 at *
  clear D00 D01 D02 D03
  refine (HCo.out _).mono ?_
  rintro e w20_ ⟨rfl, hb⟩
  have D0_21 := Lib.hid (D0_20.out.next hb)
  have D1_21 := Lib.hid (D1_20.out.next hb)
  have S14_21 := Lib.hid (S14_20.out.next hb)
  have S16_21 := Lib.hid (S16_20.out.next hb)
  have S18_21 := Lib.hid (S18_20.out.next hb)
  have S20_21 := Lib.hid (S20_20.out.next hb)
  have S22_21 := Lib.hid (S22_20.out.next hb)
  have S24_21 := Lib.hid (S24_20.out.next hb)
  have S26_21 := Lib.hid (S26_20.out.next hb)
  have S28_21 := Lib.hid (S28_20.out.next hb)
  have HB_21 := Lib.hid (Below.next HB_20.out hb)
  clear D0_20 D1_20 S14_20 S16_20 S18_20 S20_20 S22_20 S24_20 S26_20 S28_20 HB_20
  clear hb
  obtain ⟨kb, oS30⟩ := boxes1 23 (.int .i64 0) (.int .i64 0) w20_
  have D0_22 := Lib.hid (D0_21.out.next kb)
  have D1_22 := Lib.hid (D1_21.out.next kb)
  have S14_22 := Lib.hid (S14_21.out.next kb)
  have S16_22 := Lib.hid (S16_21.out.next kb)
  have S18_22 := Lib.hid (S18_21.out.next kb)
  have S20_22 := Lib.hid (S20_21.out.next kb)
  have S22_22 := Lib.hid (S22_21.out.next kb)
  have S24_22 := Lib.hid (S24_21.out.next kb)
  have S26_22 := Lib.hid (S26_21.out.next kb)
  have S28_22 := Lib.hid (S28_21.out.next kb)
  have HB_22 := Lib.hid (Below.next HB_21.out kb)
  clear D0_21 D1_21 S14_21 S16_21 S18_21 S20_21 S22_21 S24_21 S26_21 S28_21 HB_21
  have S30_22 := Lib.hid oS30
  clear kb oS30
  obtain ⟨D00, D01, D02, D03⟩ := D0_22.out
  go_wp2_with (fail)
  generalize w20_.alloc (.cells #[.int .i64 0, .int .i64 0] 23) = v22 at *
  generalize w20_.heap.size = g22 at *
  clear D00 D01 D02 D03
  refine (HNo.out _).mono ?_
  rintro e w22_ ⟨rfl, hb⟩
  have D0_23 := Lib.hid (D0_22.out.next hb)
  have D1_23 := Lib.hid (D1_22.out.next hb)
  have S14_23 := Lib.hid (S14_22.out.next hb)
  have S16_23 := Lib.hid (S16_22.out.next hb)
  have S18_23 := Lib.hid (S18_22.out.next hb)
  have S20_23 := Lib.hid (S20_22.out.next hb)
  have S22_23 := Lib.hid (S22_22.out.next hb)
  have S24_23 := Lib.hid (S24_22.out.next hb)
  have S26_23 := Lib.hid (S26_22.out.next hb)
  have S28_23 := Lib.hid (S28_22.out.next hb)
  have S30_23 := Lib.hid (S30_22.out.next hb)
  have HB_23 := Lib.hid (Below.next HB_22.out hb)
  clear D0_22 D1_22 S14_22 S16_22 S18_22 S20_22 S22_22 S24_22 S26_22 S28_22 S30_22 HB_22
  clear hb
  obtain ⟨S140, S141, S142, S143⟩ := S14_23.out
  obtain ⟨S160, S161, S162, S163⟩ := S16_23.out
  obtain ⟨S180, S181, S182, S183⟩ := S18_23.out
  obtain ⟨S200, S201, S202, S203⟩ := S20_23.out
  obtain ⟨S220, S221, S222, S223⟩ := S22_23.out
  obtain ⟨S240, S241, S242, S243⟩ := S24_23.out
  obtain ⟨S260, S261, S262, S263⟩ := S26_23.out
  obtain ⟨S280, S281, S282, S283⟩ := S28_23.out
  obtain ⟨S300, S301, S302, S303⟩ := S30_23.out
  obtain ⟨D00, D01, D02, D03⟩ := D0_23.out
  go_wp2_with (fail)
  clear S140 S141 S142 S143 S160 S161 S162 S163 S180 S181 S182 S183 S200 S201 S202 S203 S220 S221 S222 S223 S240 S241 S242 S243 S260 S261 S262 S263 S280 S281 S282 S283 S300 S301 S302 S303 D00 D01 D02 D03
  rcases hl with ⟨g1, HL⟩ | ⟨g1, g2, g3, HL⟩ | ⟨g1, g2, g3, HL⟩ | ⟨g1, g2, HL⟩
  all_goals
    have qD00 := fun (r : Over w22_) => (D0_23.out.over r).c0
    have qD01 := fun (r : Over w22_) => (D0_23.out.over r).c1
    have qD10 := fun (r : Over w22_) => (D1_23.out.over r).c0
    have qD11 := fun (r : Over w22_) => (D1_23.out.over r).c1
    refine wp_over (by kernel_rfl) (by kernel_rfl) ?_
    repeat (go_big_quiet_step (first | fail | with_reducible exact over_gives _ (HR.out _) | with_reducible exact over_gives _ (HL.out _)))
    refine wpQuiet_nil ?_
    rintro w23q ⟨⟨w23q, hb⟩, rfl⟩
    clear qD00 qD01 qD10 qD11
    have D0_24 := Lib.hid (D0_23.out.next hb)
    have D1_24 := Lib.hid (D1_23.out.next hb)
    have S14_24 := Lib.hid (S14_23.out.next hb)
    have S16_24 := Lib.hid (S16_23.out.next hb)
    have S18_24 := Lib.hid (S18_23.out.next hb)
    have S20_24 := Lib.hid (S20_23.out.next hb)
    have S22_24 := Lib.hid (S22_23.out.next hb)
    have S24_24 := Lib.hid (S24_23.out.next hb)
    have S26_24 := Lib.hid (S26_23.out.next hb)
    have S28_24 := Lib.hid (S28_23.out.next hb)
    have S30_24 := Lib.hid (S30_23.out.next hb)
    have HB_24 := Lib.hid (Below.next HB_23.out hb)
    clear D0_23 D1_23 S14_23 S16_23 S18_23 S20_23 S22_23 S24_23 S26_23 S28_23 S30_23 HB_23
    clear hb
    go_wp2_with (fail)
    go_ret
    exact ⟨rfl, HB_24.out⟩
theorem all (x y u v n : Int) (w : World) : Calls Try.prog 6 #[.agg #[.int .i64 x, .int .i64 y], .agg #[.int .i64 u, .int .i64 v], .int .i64 n] w (Gives (.bool true) w) := by
  have r1 := rright_any x y
  have r2 := rright_any u v
  have r3 : ∀ w, Calls Try.prog 22 #[.agg #[.int .i64 x, .int .i64 y]] w (Gives (.bool (rb ⟨x, y⟩)) w) := right_any x y
  have a1 := add_any x y u v
  have a2 := sub_any x y u v
  have a3 := mul_any x y u v
  have l := less_any x y u v
  have hl : ((x < u ∧ Hid (∀ w, Calls Try.prog 23 #[.agg #[.int .i64 x, .int .i64 y], .agg #[.int .i64 u, .int .i64 v]] w (Gives (.bool true) w))) ∨ (decide (x < u) = false ∧ (x == u) = true ∧ y < v ∧ Hid (∀ w, Calls Try.prog 23 #[.agg #[.int .i64 x, .int .i64 y], .agg #[.int .i64 u, .int .i64 v]] w (Gives (.bool true) w))) ∨ (decide (x < u) = false ∧ (x == u) = true ∧ decide (y < v) = false ∧ Hid (∀ w, Calls Try.prog 23 #[.agg #[.int .i64 x, .int .i64 y], .agg #[.int .i64 u, .int .i64 v]] w (Gives (.bool false) w))) ∨ (decide (x < u) = false ∧ (x == u) = false ∧ Hid (∀ w, Calls Try.prog 23 #[.agg #[.int .i64 x, .int .i64 y], .agg #[.int .i64 u, .int .i64 v]] w (Gives (.bool false) w)))) := by
    by_cases h1 : x < u
    · rw [decide_eq_true (.inl h1)] at l; exact .inl ⟨h1, Lib.hid l⟩
    · by_cases h2 : x = u
      · by_cases h3 : y < v
        · rw [decide_eq_true (.inr ⟨h2, h3⟩)] at l; exact .inr (.inl ⟨decide_eq_false h1, beq_iff_eq.2 h2, h3, Lib.hid l⟩)
        · rw [decide_eq_false (by omega)] at l; exact .inr (.inr (.inl ⟨decide_eq_false h1, beq_iff_eq.2 h2, decide_eq_false h3, Lib.hid l⟩))
      · rw [decide_eq_false (by omega)] at l; exact .inr (.inr (.inr ⟨decide_eq_false h1, beq_eq_false_iff_ne.2 h2, Lib.hid l⟩))
  clear l
  cases ha : rb ⟨x, y⟩
  · rw [ha] at r1 r3 a1 a2 a3
    rw [Bool.false_and, Bool.false_and] at a1 a2 a3
    exact ff w (Lib.hid r1) (Lib.hid a1) (Lib.hid (in_false 0 0)) (Lib.hid a2) (Lib.hid (in_false 0 0)) (Lib.hid a3) (Lib.hid (in_false 0 0)) (Lib.hid (conj_no ha)) (Lib.hid (norm_no ha)) (Lib.hid (turn_no ha n)) (Lib.hid (in_false 0 0)) (Lib.hid r3) hl
  · obtain ⟨hx, hy⟩ := rb_xy ha
    obtain ⟨k1, k2, k3, k4⟩ := mod4 n
    rw [ha] at r1 r3 a1 a2 a3
    cases hb : rb ⟨u, v⟩
    · rw [hb] at r2 a1 a2 a3
      exact tf w (Lib.hid ha) hx.1 hx.2 hy.1 hy.2 k1 k2 k3 k4 (Lib.hid r1) (Lib.hid r2) (Lib.hid a1) (Lib.hid (in_false 0 0)) (Lib.hid a2) (Lib.hid (in_false 0 0)) (Lib.hid a3) (Lib.hid (in_false 0 0)) (Lib.hid (conj_yes ha)) (Lib.hid (norm_yes ha)) (Lib.hid (rnorm_any ha)) (Lib.hid (turn_yes ha n)) (Lib.hid r3) hl
    · obtain ⟨hu, hv⟩ := rb_xy hb
      have i1 := in_true (x + u) (y + v)
      have i2 := in_true (x - u) (y - v)
      have i3 := in_true (x * u - y * v) (x * v + y * u)
      rw [hb] at r2 a1 a2 a3
      rw [Bool.true_and, Bool.true_and] at a1 a2 a3
      have b1 : ∀ w, Calls Try.prog 11 #[.agg #[.int .i64 x, .int .i64 y], .agg #[.int .i64 u, .int .i64 v]] w (Gives (ans (rb ⟨x + u, y + v⟩) ⟨x + u, y + v⟩) w) := a1
      have b2 : ∀ w, Calls Try.prog 12 #[.agg #[.int .i64 x, .int .i64 y], .agg #[.int .i64 u, .int .i64 v]] w (Gives (ans (rb ⟨x - u, y - v⟩) ⟨x - u, y - v⟩) w) := a2
      have b3 : ∀ w, Calls Try.prog 10 #[.agg #[.int .i64 x, .int .i64 y], .agg #[.int .i64 u, .int .i64 v]] w (Gives (ans (rb ⟨x * u - y * v, x * v + y * u⟩) ⟨x * u - y * v, x * v + y * u⟩) w) := a3
      cases c1 : rb ⟨x + u, y + v⟩
      all_goals
        rw [c1] at b1 i1
        cases c2 : rb ⟨x - u, y - v⟩
        all_goals
          rw [c2] at b2 i2
          cases c3 : rb ⟨x * u - y * v, x * v + y * u⟩
          all_goals
            rw [c3] at b3 i3
            exact tt w (Lib.hid ha) hx.1 hx.2 hy.1 hy.2 k1 k2 k3 k4 hu.1 hu.2 hv.1 hv.2 (Lib.hid r1) (Lib.hid r2) (Lib.hid (rmul_any ha hb)) (Lib.hid b1) (Lib.hid i1) (Lib.hid b2) (Lib.hid i2) (Lib.hid b3) (Lib.hid i3) (Lib.hid (conj_yes ha)) (Lib.hid (norm_yes ha)) (Lib.hid (rnorm_any ha)) (Lib.hid (turn_yes ha n)) (Lib.hid r3) hl
/-! ### STEP 1: THE WALK: the Go text returns true. 'Grown w w'': the world has at most new blocks (Derived/RowKit3.lean). Part the cases AHEAD of 'go_enter' where a test parts the walk; take each callee by a contract of your own. -/
theorem walk (x0 y0 : Int) (x1 y1 : Int) (a2 : Int) (wx0 : (Lit.int .i64 x0).wf = true) (wy0 : (Lit.int .i64 y0).wf = true) (wx1 : (Lit.int .i64 x1).wf = true) (wy1 : (Lit.int .i64 y1).wf = true) (w2 : (Lit.int .i64 a2).wf = true) (w : World) :
    Calls Try.prog 6 #[.agg #[.int .i64 x0, .int .i64 y0], .agg #[.int .i64 x1, .int .i64 y1], .int .i64 a2] w fun e w' => e = .returned (.bool true) ∧ Below w.heap.size w w' := by
  exact all x0 y0 x1 y1 a2 w

/-! ### THE ROW's STEP: WRITTEN OUT: LEAVE IT -/
set_option maxRecDepth 100000 in
theorem lifted (os : Os) (started : os.Started) (H : Type) (enc : TypeId × Value → H) :
    ReturnsInHanded {} Try.checked os 6 .any (Rows.gaussPlaysSpec.pre6 enc Try.prog Try.f6 Rows.gaussPlaysRow.domain false) (Rows.gaussPlaysSpec.post enc Try.prog Try.f6 false true false false) := by
  refine returnsInHanded_of_change (C := Try.checked) own started (by kernel_rfl) Try.func6
    (ChangeSpec.witness6 (enc := enc) (C := Try.checked) false ⟨#[], #[.agg #[.int .i64 0, .int .i64 0], .agg #[.int .i64 0, .int .i64 0], .int .i64 0], []⟩ 8 (by kernel_rfl) (by kernel_rfl) (by kernel_rfl) (by kernel_rfl)) ?_
  intro W base args ds gs before hval0 hW hcnd _
  have hval : ∀ (j : Nat) t v, Try.f6.params[j]? = some t → args[j]? = some v → Value.okWide Try.prog W .any base t v := hval0
  have hW' := hW
  obtain ⟨p, q, hA0, hV, rfl, hfz, hnd⟩ := hW
  have hA : DataW.TrodAll enc Try.prog W 0 (fun _ => true) true Try.f6.params.toList args.toList ds p := hA0
  rw [Try.params6] at hA hval
  obtain ⟨v0, vs0, d0, ds0, p0, q0, hargs, rfl, rfl, h0, r0⟩ := trodAll_cons hA
  obtain ⟨v1, vs1, d1, ds1, p1, q1, rfl, rfl, rfl, h1, r1⟩ := trodAll_cons r0
  obtain ⟨v2, vs2, d2, ds2, p2, q2, rfl, rfl, rfl, h2, r2⟩ := trodAll_cons r1
  obtain ⟨rfl, rfl, rfl⟩ := trodAll_nil r2
  obtain rfl : args = #[v0, v1, v2] := by cases args; simp_all
  obtain ⟨rfl, rfl⟩ := trodVars_none hV
  obtain ⟨x0, y0, rfl, rfl, rfl, wx0, wy0⟩ := Ga.spot_of (hval 0 23 v0 rfl rfl) h0
  obtain ⟨x1, y1, rfl, rfl, rfl, wx1, wy1⟩ := Ga.spot_of (hval 1 23 v1 rfl rfl) h1
  obtain ⟨a2, rfl, rfl, rfl, w2⟩ := open_int Try.underlying3 (hval 2 3 v2 rfl rfl) h2
  clear hA0 hval0
  simp only [List.append_nil] at hW'
  refine (walk x0 y0 x1 y1 a2 wx0 wy0 wx1 wy1 w2 W).mono fun e W' ⟨he, bel⟩ => ?_
  subst he
  exact ⟨_, rfl, _, _, _, [], _, [], hW', trodAll_mk1 (shut_bool Try.underlying4 _), (trodAll_cons_mk (Ga.shut_spot wx0 wy0) (trodAll_cons_mk (Ga.shut_spot wx1 wy1) (trodAll_cons_mk (shut_int Try.underlying3 w2) trodAll_mk0))), rfl, bel.frame _, fun h => by cases h⟩

theorem over : Rows.gaussPlaysRow.holds Try.pinned (OpenSpec.ofChange Rows.gaussPlaysSpec) :=
  OpenClaim.holds_of_wide 6 Try.f6 rfl rfl rfl rfl rfl rfl rfl ⟨rfl, rfl, rfl, rfl, rfl⟩ rfl rfl rfl rfl rfl (by kernel_rfl) Try.func6 (by kernel_rfl)
    (of_decide_eq_true (by kernel_rfl)) (by unfold Func.isWrapper; first | (rw [if_pos (by decide +kernel)]; kernel_rfl) | (rw [if_neg (by decide +kernel)]; exact ⟨rfl, rfl⟩))
    (fun os started H enc _ => lifted os started H enc)

/-- ████ THE STATEMENT ████ -/
theorem proved : Rows.GaussPlaysSaid :=
  over
#print axioms proved
end Go.Proofs.Ytjgaaeomfilhoaa.gaussPlays
