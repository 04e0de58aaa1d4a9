/-
  Folds of three values: the walks.
-/
import Derived.Test.YtimllihegnokeaaJoFolds
import Derived.Deep.Cut
namespace Go.Proofs.Ytimllihegnokeaa.Jo
open Go.ChangeShapes Go.WideShapes Go.ChangeAt Go.RowKit Go.Proofs.Ytimllihegnokeaa.Ov Go.Proofs.Ytimllihegnokeaa.Ga Go.Proofs.Ytimllihegnokeaa.Va

set_option maxHeartbeats 4000000 in
theorem folds_1_0_n (q : Int) (hq : 0 ≤ q ∧ q < 256) (c : ByteArray) (hc : ([.string ⟨#[115, 117, 109]⟩, .string ⟨#[109, 97, 120]⟩, .string ⟨#[109, 105, 110]⟩, .string ⟨#[103, 99, 100]⟩] : List Value)[(q % 4).toNat]? = some (.string c)) (k0 n0 x0 y0 k1 n1 x1 y1 k2 n2 x2 y2 k3 n3 x3 y3 k4 n4 x4 y4 k6 n6 x6 y6 h : Int) (s0 s1 s2 s3 s4 s6 : ByteArray) (w : World) (F1 : Hid (∀ w, Calls Try.prog 5 #[.string c, .agg #[.int .i64 k0, .int .i64 n0, .string s0, .int .i64 x0, .int .i64 y0], .agg #[.int .i64 k1, .int .i64 n1, .string s1, .int .i64 x1, .int .i64 y1]] w (Gives (.tuple #[.agg #[.int .i64 k3, .int .i64 n3, .string s3, .int .i64 x3, .int .i64 y3], .int .i64 1]) w))) (F2 : Hid (∀ w, Calls Try.prog 5 #[.string c, .agg #[.int .i64 k1, .int .i64 n1, .string s1, .int .i64 x1, .int .i64 y1], .agg #[.int .i64 k0, .int .i64 n0, .string s0, .int .i64 x0, .int .i64 y0]] w (Gives (.tuple #[.agg #[.int .i64 k3, .int .i64 n3, .string s3, .int .i64 x3, .int .i64 y3], .int .i64 1]) w))) (F3 : Hid (∀ w, Calls Try.prog 5 #[.string c, .agg #[.int .i64 k1, .int .i64 n1, .string s1, .int .i64 x1, .int .i64 y1], .agg #[.int .i64 k2, .int .i64 n2, .string s2, .int .i64 x2, .int .i64 y2]] w (Gives (.tuple #[.agg #[.int .i64 k4, .int .i64 n4, .string s4, .int .i64 x4, .int .i64 y4], .int .i64 0]) w))) (F5 : Hid (∀ w, Calls Try.prog 5 #[.string c, .agg #[.int .i64 k0, .int .i64 n0, .string s0, .int .i64 x0, .int .i64 y0], .agg #[.int .i64 k4, .int .i64 n4, .string s4, .int .i64 x4, .int .i64 y4]] w (Gives (.tuple #[.agg #[.int .i64 k6, .int .i64 n6, .string s6, .int .i64 x6, .int .i64 y6], .int .i64 h]) w))) :
    Calls Try.prog 3 #[.int .u8 q, .agg #[.int .i64 k0, .int .i64 n0, .string s0, .int .i64 x0, .int .i64 y0], .agg #[.int .i64 k1, .int .i64 n1, .string s1, .int .i64 x1, .int .i64 y1], .agg #[.int .i64 k2, .int .i64 n2, .string s2, .int .i64 x2, .int .i64 y2]] w (Gives (.bool true) w) := by
  obtain ⟨D1, D2, D3, hb0⟩ := two_boxes w 25 [.int .i64 k0, .int .i64 n0, .string s0, .int .i64 x0, .int .i64 y0] [.int .i64 k1, .int .i64 n1, .string s1, .int .i64 x1, .int .i64 y1] [.int .i64 k2, .int .i64 n2, .string s2, .int .i64 x2, .int .i64 y2]
  have Ha := Lib.hid D1; have Hb := Lib.hid D2; have Hc := Lib.hid D3; have HB := Lib.hid hb0; clear D1 D2 D3 hb0
  go_enter Try.func3, Try.ntmps3
  go_wp2_with (fail)
  refine (awake_any _).mono ?_
  rintro e w1 ⟨rfl, hb⟩
  replace Ha := Lib.hid (Ha.out.next hb)
  replace Hb := Lib.hid (Hb.out.next hb)
  replace Hc := Lib.hid (Hc.out.next hb)
  replace HB := Lib.hid (Below.next HB.out hb)
  clear hb
  replace Ha := Lib.hid (Ha.out.old (.cells #[.string ⟨#[115, 117, 109]⟩, .string ⟨#[109, 97, 120]⟩, .string ⟨#[109, 105, 110]⟩, .string ⟨#[103, 99, 100]⟩] 9))
  replace Hb := Lib.hid (Hb.out.old (.cells #[.string ⟨#[115, 117, 109]⟩, .string ⟨#[109, 97, 120]⟩, .string ⟨#[109, 105, 110]⟩, .string ⟨#[103, 99, 100]⟩] 9))
  replace Hc := Lib.hid (Hc.out.old (.cells #[.string ⟨#[115, 117, 109]⟩, .string ⟨#[109, 97, 120]⟩, .string ⟨#[109, 105, 110]⟩, .string ⟨#[103, 99, 100]⟩] 9))
  replace HB := Lib.hid (below_box HB.out (.cells #[.string ⟨#[115, 117, 109]⟩, .string ⟨#[109, 97, 120]⟩, .string ⟨#[109, 105, 110]⟩, .string ⟨#[103, 99, 100]⟩] 9))
  obtain ⟨ca0, ca1, ca2, ca3, ca4⟩ := five Ha.out
  obtain ⟨cb0, cb1, cb2, cb3, cb4⟩ := five Hb.out
  go_wp2_with (fail)
  clear ca0 ca1 ca2 ca3 ca4 cb0 cb1 cb2 cb3 cb4
  clear hc hq
  generalize w1.alloc (.cells #[.string ⟨#[115, 117, 109]⟩, .string ⟨#[109, 97, 120]⟩, .string ⟨#[109, 105, 110]⟩, .string ⟨#[103, 99, 100]⟩] 9) = v1 at *
  refine (F1.out _).mono ?_
  rintro e w2 ⟨rfl, hb⟩
  replace Ha := Lib.hid (Ha.out.next hb)
  replace Hb := Lib.hid (Hb.out.next hb)
  replace Hc := Lib.hid (Hc.out.next hb)
  replace HB := Lib.hid (Below.next HB.out hb)
  clear hb
  have Hp := Lib.hid (made5 w2 25 (.int .i64 k3) (.int .i64 n3) (.string s3) (.int .i64 x3) (.int .i64 y3))
  have lap := Ha.out.lt
  replace Ha := Lib.hid (Ha.out.old (.cells #[.int .i64 k3, .int .i64 n3, .string s3, .int .i64 x3, .int .i64 y3] 25))
  have lbp := Hb.out.lt
  replace Hb := Lib.hid (Hb.out.old (.cells #[.int .i64 k3, .int .i64 n3, .string s3, .int .i64 x3, .int .i64 y3] 25))
  have lcp := Hc.out.lt
  replace Hc := Lib.hid (Hc.out.old (.cells #[.int .i64 k3, .int .i64 n3, .string s3, .int .i64 x3, .int .i64 y3] 25))
  replace HB := Lib.hid (below_box HB.out (.cells #[.int .i64 k3, .int .i64 n3, .string s3, .int .i64 x3, .int .i64 y3] 25))
  obtain ⟨cb0, cb1, cb2, cb3, cb4⟩ := five Hb.out
  obtain ⟨ca0, ca1, ca2, ca3, ca4⟩ := five Ha.out
  go_wp2_with (fail)
  clear cb0 cb1 cb2 cb3 cb4 ca0 ca1 ca2 ca3 ca4
  generalize w2.alloc (.cells #[.int .i64 k3, .int .i64 n3, .string s3, .int .i64 x3, .int .i64 y3] 25) = v2 at *
  refine (F2.out _).mono ?_
  rintro e w3 ⟨rfl, hb⟩
  replace Ha := Lib.hid (Ha.out.next hb)
  replace Hb := Lib.hid (Hb.out.next hb)
  replace Hc := Lib.hid (Hc.out.next hb)
  replace Hp := Lib.hid (Hp.out.next hb)
  replace HB := Lib.hid (Below.next HB.out hb)
  clear hb
  have Hr := Lib.hid (made5 w3 25 (.int .i64 k3) (.int .i64 n3) (.string s3) (.int .i64 x3) (.int .i64 y3))
  have lar := Ha.out.lt
  replace Ha := Lib.hid (Ha.out.old (.cells #[.int .i64 k3, .int .i64 n3, .string s3, .int .i64 x3, .int .i64 y3] 25))
  have lbr := Hb.out.lt
  replace Hb := Lib.hid (Hb.out.old (.cells #[.int .i64 k3, .int .i64 n3, .string s3, .int .i64 x3, .int .i64 y3] 25))
  have lcr := Hc.out.lt
  replace Hc := Lib.hid (Hc.out.old (.cells #[.int .i64 k3, .int .i64 n3, .string s3, .int .i64 x3, .int .i64 y3] 25))
  have lpr := Hp.out.lt
  replace Hp := Lib.hid (Hp.out.old (.cells #[.int .i64 k3, .int .i64 n3, .string s3, .int .i64 x3, .int .i64 y3] 25))
  replace HB := Lib.hid (below_box HB.out (.cells #[.int .i64 k3, .int .i64 n3, .string s3, .int .i64 x3, .int .i64 y3] 25))
  have hv := eql_val k3 n3 x3 y3 k3 n3 x3 y3 s3 s3
  rw [ve_self] at hv
  obtain ⟨cp0, cp1, cp2, cp3, cp4⟩ := five Hp.out
  obtain ⟨cr0, cr1, cr2, cr3, cr4⟩ := five Hr.out
  obtain ⟨cb0, cb1, cb2, cb3, cb4⟩ := five Hb.out
  obtain ⟨cc0, cc1, cc2, cc3, cc4⟩ := five Hc.out
  go_wp2_with (fail)
  clear cp0 cp1 cp2 cp3 cp4 cr0 cr1 cr2 cr3 cr4 cb0 cb1 cb2 cb3 cb4 cc0 cc1 cc2 cc3 cc4
  generalize w3.alloc (.cells #[.int .i64 k3, .int .i64 n3, .string s3, .int .i64 x3, .int .i64 y3] 25) = v3 at *
  clear F1 F2
  clear Hr
  clear Hb
  clear Hc
  refine (F3.out _).mono ?_
  rintro e w4 ⟨rfl, hb⟩
  replace Ha := Lib.hid (Ha.out.next hb)
  replace Hp := Lib.hid (Hp.out.next hb)
  replace HB := Lib.hid (Below.next HB.out hb)
  clear hb
  have hz : w.heap.size ≤ w4.heap.size := HB.out.size
  have la := Ha.out.lt
  have lp := Hp.out.lt
  obtain ⟨cp0, cp1, cp2, cp3, cp4⟩ := five Hp.out
  have Hd := Lib.hid (made5 w4 25 (.int .i64 k4) (.int .i64 n4) (.string s4) (.int .i64 x4) (.int .i64 y4))
  replace Ha := Lib.hid (Ha.out.old (.cells #[.int .i64 k4, .int .i64 n4, .string s4, .int .i64 x4, .int .i64 y4] 25))
  replace Hp := Lib.hid (Hp.out.old (.cells #[.int .i64 k4, .int .i64 n4, .string s4, .int .i64 x4, .int .i64 y4] 25))
  replace HB := Lib.hid (below_box HB.out (.cells #[.int .i64 k4, .int .i64 n4, .string s4, .int .i64 x4, .int .i64 y4] 25))
  have He := Lib.hid (made5' w4 (.cells #[.int .i64 k4, .int .i64 n4, .string s4, .int .i64 x4, .int .i64 y4] 25) 25 (.int .i64 k3) (.int .i64 n3) (.string s3) (.int .i64 x3) (.int .i64 y3))
  replace Ha := Lib.hid (Ha.out.old (.cells #[.int .i64 k3, .int .i64 n3, .string s3, .int .i64 x3, .int .i64 y3] 25))
  replace Hp := Lib.hid (Hp.out.old (.cells #[.int .i64 k3, .int .i64 n3, .string s3, .int .i64 x3, .int .i64 y3] 25))
  replace Hd := Lib.hid (Hd.out.old (.cells #[.int .i64 k3, .int .i64 n3, .string s3, .int .i64 x3, .int .i64 y3] 25))
  replace HB := Lib.hid (below_box HB.out (.cells #[.int .i64 k3, .int .i64 n3, .string s3, .int .i64 x3, .int .i64 y3] 25))
  obtain ⟨md10, md11, md12, md13, md14⟩ := five Hd.out
  have Hf := Lib.hid (made5'' w4 (.cells #[.int .i64 k4, .int .i64 n4, .string s4, .int .i64 x4, .int .i64 y4] 25) (.cells #[.int .i64 k3, .int .i64 n3, .string s3, .int .i64 x3, .int .i64 y3] 25) 25 (.int .i64 k4) (.int .i64 n4) (.string s4) (.int .i64 x4) (.int .i64 y4))
  replace Ha := Lib.hid (Ha.out.old (.cells #[.int .i64 k4, .int .i64 n4, .string s4, .int .i64 x4, .int .i64 y4] 25))
  replace Hp := Lib.hid (Hp.out.old (.cells #[.int .i64 k4, .int .i64 n4, .string s4, .int .i64 x4, .int .i64 y4] 25))
  replace Hd := Lib.hid (Hd.out.old (.cells #[.int .i64 k4, .int .i64 n4, .string s4, .int .i64 x4, .int .i64 y4] 25))
  replace He := Lib.hid (He.out.old (.cells #[.int .i64 k4, .int .i64 n4, .string s4, .int .i64 x4, .int .i64 y4] 25))
  replace HB := Lib.hid (below_box HB.out (.cells #[.int .i64 k4, .int .i64 n4, .string s4, .int .i64 x4, .int .i64 y4] 25))
  obtain ⟨ma20, ma21, ma22, ma23, ma24⟩ := five Ha.out
  obtain ⟨md20, md21, md22, md23, md24⟩ := five Hd.out
  go_wp2_with (fail)
  clear cp0 cp1 cp2 cp3 cp4 md10 md11 md12 md13 md14 ma20 ma21 ma22 ma23 ma24 md20 md21 md22 md23 md24
  generalize (((w4.alloc (.cells #[.int .i64 k4, .int .i64 n4, .string s4, .int .i64 x4, .int .i64 y4] 25)).alloc (.cells #[.int .i64 k3, .int .i64 n3, .string s3, .int .i64 x3, .int .i64 y3] 25)).alloc (.cells #[.int .i64 k4, .int .i64 n4, .string s4, .int .i64 x4, .int .i64 y4] 25)) = v4 at *
  clear Ha
  clear Hd
  refine (F5.out _).mono ?_
  rintro e w5 ⟨rfl, hb⟩
  replace Hp := Lib.hid (Hp.out.next hb)
  replace He := Lib.hid (He.out.next hb)
  replace Hf := Lib.hid (Hf.out.next hb)
  replace HB := Lib.hid (Below.next HB.out hb)
  clear hb
  obtain ⟨cf0, cf1, cf2, cf3, cf4⟩ := five Hf.out
  obtain ⟨zf0, zf1, zf2, zf3, zf4⟩ := thaw Hf.out
  go_upto_region 15 with fail
  clear cf0 cf1 cf2 cf3 cf4 zf0 zf1 zf2 zf3 zf4
  replace Hp := Lib.hid (oth5 (b := w4.heap.size + 1 + 1) Hp.out (by omega) (.int .i64 k6) (.int .i64 n6) (.string s6) (.int .i64 x6) (.int .i64 y6))
  replace He := Lib.hid (oth5 (b := w4.heap.size + 1 + 1) He.out (by omega) (.int .i64 k6) (.int .i64 n6) (.string s6) (.int .i64 x6) (.int .i64 y6))
  replace Hf := Lib.hid (set5 Hf.out (.int .i64 k6) (.int .i64 n6) (.string s6) (.int .i64 x6) (.int .i64 y6))
  replace HB := Lib.hid (bel5 (b := w4.heap.size + 1 + 1) HB.out (by omega) (.int .i64 k6) (.int .i64 n6) (.string s6) (.int .i64 x6) (.int .i64 y6))
  generalize (((((w5.setCell ⟨w4.heap.size + 1 + 1, 0, none⟩ (.int .i64 k6)).setCell ⟨w4.heap.size + 1 + 1, 1, none⟩ (.int .i64 n6)).setCell ⟨w4.heap.size + 1 + 1, 2, none⟩ (.string s6)).setCell ⟨w4.heap.size + 1 + 1, 3, none⟩ (.int .i64 x6)).setCell ⟨w4.heap.size + 1 + 1, 4, none⟩ (.int .i64 y6)) = u2 at *
  obtain ⟨ce0, ce1, ce2, ce3, ce4⟩ := five He.out
  obtain ⟨cf0, cf1, cf2, cf3, cf4⟩ := five Hf.out
  go_wp2_with (fail)
  go_ret
  exact ⟨rfl, HB.out⟩
set_option maxHeartbeats 4000000 in
theorem folds_13_13 (q : Int) (hq : 0 ≤ q ∧ q < 256) (c : ByteArray) (hc : ([.string ⟨#[115, 117, 109]⟩, .string ⟨#[109, 97, 120]⟩, .string ⟨#[109, 105, 110]⟩, .string ⟨#[103, 99, 100]⟩] : List Value)[(q % 4).toNat]? = some (.string c)) (k0 n0 x0 y0 k1 n1 x1 y1 k2 n2 x2 y2 k3 n3 x3 y3 k4 n4 x4 y4 : Int) (s0 s1 s2 s3 s4 : ByteArray) (w : World) (F1 : Hid (∀ w, Calls Try.prog 5 #[.string c, .agg #[.int .i64 k0, .int .i64 n0, .string s0, .int .i64 x0, .int .i64 y0], .agg #[.int .i64 k1, .int .i64 n1, .string s1, .int .i64 x1, .int .i64 y1]] w (Gives (.tuple #[.agg #[.int .i64 k3, .int .i64 n3, .string s3, .int .i64 x3, .int .i64 y3], .int .i64 13]) w))) (F2 : Hid (∀ w, Calls Try.prog 5 #[.string c, .agg #[.int .i64 k1, .int .i64 n1, .string s1, .int .i64 x1, .int .i64 y1], .agg #[.int .i64 k0, .int .i64 n0, .string s0, .int .i64 x0, .int .i64 y0]] w (Gives (.tuple #[.agg #[.int .i64 k3, .int .i64 n3, .string s3, .int .i64 x3, .int .i64 y3], .int .i64 13]) w))) (F3 : Hid (∀ w, Calls Try.prog 5 #[.string c, .agg #[.int .i64 k1, .int .i64 n1, .string s1, .int .i64 x1, .int .i64 y1], .agg #[.int .i64 k2, .int .i64 n2, .string s2, .int .i64 x2, .int .i64 y2]] w (Gives (.tuple #[.agg #[.int .i64 k4, .int .i64 n4, .string s4, .int .i64 x4, .int .i64 y4], .int .i64 13]) w))) :
    Calls Try.prog 3 #[.int .u8 q, .agg #[.int .i64 k0, .int .i64 n0, .string s0, .int .i64 x0, .int .i64 y0], .agg #[.int .i64 k1, .int .i64 n1, .string s1, .int .i64 x1, .int .i64 y1], .agg #[.int .i64 k2, .int .i64 n2, .string s2, .int .i64 x2, .int .i64 y2]] w (Gives (.bool true) w) := by
  obtain ⟨D1, D2, D3, hb0⟩ := two_boxes w 25 [.int .i64 k0, .int .i64 n0, .string s0, .int .i64 x0, .int .i64 y0] [.int .i64 k1, .int .i64 n1, .string s1, .int .i64 x1, .int .i64 y1] [.int .i64 k2, .int .i64 n2, .string s2, .int .i64 x2, .int .i64 y2]
  have Ha := Lib.hid D1; have Hb := Lib.hid D2; have Hc := Lib.hid D3; have HB := Lib.hid hb0; clear D1 D2 D3 hb0
  go_enter Try.func3, Try.ntmps3
  go_wp2_with (fail)
  refine (awake_any _).mono ?_
  rintro e w1 ⟨rfl, hb⟩
  replace Ha := Lib.hid (Ha.out.next hb)
  replace Hb := Lib.hid (Hb.out.next hb)
  replace Hc := Lib.hid (Hc.out.next hb)
  replace HB := Lib.hid (Below.next HB.out hb)
  clear hb
  replace Ha := Lib.hid (Ha.out.old (.cells #[.string ⟨#[115, 117, 109]⟩, .string ⟨#[109, 97, 120]⟩, .string ⟨#[109, 105, 110]⟩, .string ⟨#[103, 99, 100]⟩] 9))
  replace Hb := Lib.hid (Hb.out.old (.cells #[.string ⟨#[115, 117, 109]⟩, .string ⟨#[109, 97, 120]⟩, .string ⟨#[109, 105, 110]⟩, .string ⟨#[103, 99, 100]⟩] 9))
  replace Hc := Lib.hid (Hc.out.old (.cells #[.string ⟨#[115, 117, 109]⟩, .string ⟨#[109, 97, 120]⟩, .string ⟨#[109, 105, 110]⟩, .string ⟨#[103, 99, 100]⟩] 9))
  replace HB := Lib.hid (below_box HB.out (.cells #[.string ⟨#[115, 117, 109]⟩, .string ⟨#[109, 97, 120]⟩, .string ⟨#[109, 105, 110]⟩, .string ⟨#[103, 99, 100]⟩] 9))
  obtain ⟨ca0, ca1, ca2, ca3, ca4⟩ := five Ha.out
  obtain ⟨cb0, cb1, cb2, cb3, cb4⟩ := five Hb.out
  go_wp2_with (fail)
  clear ca0 ca1 ca2 ca3 ca4 cb0 cb1 cb2 cb3 cb4
  clear hc hq
  generalize w1.alloc (.cells #[.string ⟨#[115, 117, 109]⟩, .string ⟨#[109, 97, 120]⟩, .string ⟨#[109, 105, 110]⟩, .string ⟨#[103, 99, 100]⟩] 9) = v1 at *
  refine (F1.out _).mono ?_
  rintro e w2 ⟨rfl, hb⟩
  replace Ha := Lib.hid (Ha.out.next hb)
  replace Hb := Lib.hid (Hb.out.next hb)
  replace Hc := Lib.hid (Hc.out.next hb)
  replace HB := Lib.hid (Below.next HB.out hb)
  clear hb
  have Hp := Lib.hid (made5 w2 25 (.int .i64 k3) (.int .i64 n3) (.string s3) (.int .i64 x3) (.int .i64 y3))
  have lap := Ha.out.lt
  replace Ha := Lib.hid (Ha.out.old (.cells #[.int .i64 k3, .int .i64 n3, .string s3, .int .i64 x3, .int .i64 y3] 25))
  have lbp := Hb.out.lt
  replace Hb := Lib.hid (Hb.out.old (.cells #[.int .i64 k3, .int .i64 n3, .string s3, .int .i64 x3, .int .i64 y3] 25))
  have lcp := Hc.out.lt
  replace Hc := Lib.hid (Hc.out.old (.cells #[.int .i64 k3, .int .i64 n3, .string s3, .int .i64 x3, .int .i64 y3] 25))
  replace HB := Lib.hid (below_box HB.out (.cells #[.int .i64 k3, .int .i64 n3, .string s3, .int .i64 x3, .int .i64 y3] 25))
  obtain ⟨cb0, cb1, cb2, cb3, cb4⟩ := five Hb.out
  obtain ⟨ca0, ca1, ca2, ca3, ca4⟩ := five Ha.out
  go_wp2_with (fail)
  clear cb0 cb1 cb2 cb3 cb4 ca0 ca1 ca2 ca3 ca4
  generalize w2.alloc (.cells #[.int .i64 k3, .int .i64 n3, .string s3, .int .i64 x3, .int .i64 y3] 25) = v2 at *
  refine (F2.out _).mono ?_
  rintro e w3 ⟨rfl, hb⟩
  replace Ha := Lib.hid (Ha.out.next hb)
  replace Hb := Lib.hid (Hb.out.next hb)
  replace Hc := Lib.hid (Hc.out.next hb)
  replace Hp := Lib.hid (Hp.out.next hb)
  replace HB := Lib.hid (Below.next HB.out hb)
  clear hb
  have Hr := Lib.hid (made5 w3 25 (.int .i64 k3) (.int .i64 n3) (.string s3) (.int .i64 x3) (.int .i64 y3))
  have lar := Ha.out.lt
  replace Ha := Lib.hid (Ha.out.old (.cells #[.int .i64 k3, .int .i64 n3, .string s3, .int .i64 x3, .int .i64 y3] 25))
  have lbr := Hb.out.lt
  replace Hb := Lib.hid (Hb.out.old (.cells #[.int .i64 k3, .int .i64 n3, .string s3, .int .i64 x3, .int .i64 y3] 25))
  have lcr := Hc.out.lt
  replace Hc := Lib.hid (Hc.out.old (.cells #[.int .i64 k3, .int .i64 n3, .string s3, .int .i64 x3, .int .i64 y3] 25))
  have lpr := Hp.out.lt
  replace Hp := Lib.hid (Hp.out.old (.cells #[.int .i64 k3, .int .i64 n3, .string s3, .int .i64 x3, .int .i64 y3] 25))
  replace HB := Lib.hid (below_box HB.out (.cells #[.int .i64 k3, .int .i64 n3, .string s3, .int .i64 x3, .int .i64 y3] 25))
  have hv := eql_val k3 n3 x3 y3 k3 n3 x3 y3 s3 s3
  rw [ve_self] at hv
  obtain ⟨cp0, cp1, cp2, cp3, cp4⟩ := five Hp.out
  obtain ⟨cr0, cr1, cr2, cr3, cr4⟩ := five Hr.out
  obtain ⟨cb0, cb1, cb2, cb3, cb4⟩ := five Hb.out
  obtain ⟨cc0, cc1, cc2, cc3, cc4⟩ := five Hc.out
  go_wp2_with (fail)
  clear cp0 cp1 cp2 cp3 cp4 cr0 cr1 cr2 cr3 cr4 cb0 cb1 cb2 cb3 cb4 cc0 cc1 cc2 cc3 cc4
  generalize w3.alloc (.cells #[.int .i64 k3, .int .i64 n3, .string s3, .int .i64 x3, .int .i64 y3] 25) = v3 at *
  clear F1 F2
  clear Hr
  clear Hb
  clear Ha
  clear Hc
  refine (F3.out _).mono ?_
  rintro e w4 ⟨rfl, hb⟩
  replace Hp := Lib.hid (Hp.out.next hb)
  replace HB := Lib.hid (Below.next HB.out hb)
  clear hb
  have hz : w.heap.size ≤ w4.heap.size := HB.out.size
  have lp := Hp.out.lt
  obtain ⟨cp0, cp1, cp2, cp3, cp4⟩ := five Hp.out
  have Hd := Lib.hid (made5 w4 25 (.int .i64 k4) (.int .i64 n4) (.string s4) (.int .i64 x4) (.int .i64 y4))
  replace Hp := Lib.hid (Hp.out.old (.cells #[.int .i64 k4, .int .i64 n4, .string s4, .int .i64 x4, .int .i64 y4] 25))
  replace HB := Lib.hid (below_box HB.out (.cells #[.int .i64 k4, .int .i64 n4, .string s4, .int .i64 x4, .int .i64 y4] 25))
  have He := Lib.hid (made5' w4 (.cells #[.int .i64 k4, .int .i64 n4, .string s4, .int .i64 x4, .int .i64 y4] 25) 25 (.int .i64 k3) (.int .i64 n3) (.string s3) (.int .i64 x3) (.int .i64 y3))
  replace Hp := Lib.hid (Hp.out.old (.cells #[.int .i64 k3, .int .i64 n3, .string s3, .int .i64 x3, .int .i64 y3] 25))
  replace Hd := Lib.hid (Hd.out.old (.cells #[.int .i64 k3, .int .i64 n3, .string s3, .int .i64 x3, .int .i64 y3] 25))
  replace HB := Lib.hid (below_box HB.out (.cells #[.int .i64 k3, .int .i64 n3, .string s3, .int .i64 x3, .int .i64 y3] 25))
  obtain ⟨md10, md11, md12, md13, md14⟩ := five Hd.out
  have Hf := Lib.hid (made5'' w4 (.cells #[.int .i64 k4, .int .i64 n4, .string s4, .int .i64 x4, .int .i64 y4] 25) (.cells #[.int .i64 k3, .int .i64 n3, .string s3, .int .i64 x3, .int .i64 y3] 25) 25 (.int .i64 k4) (.int .i64 n4) (.string s4) (.int .i64 x4) (.int .i64 y4))
  replace Hp := Lib.hid (Hp.out.old (.cells #[.int .i64 k4, .int .i64 n4, .string s4, .int .i64 x4, .int .i64 y4] 25))
  replace Hd := Lib.hid (Hd.out.old (.cells #[.int .i64 k4, .int .i64 n4, .string s4, .int .i64 x4, .int .i64 y4] 25))
  replace He := Lib.hid (He.out.old (.cells #[.int .i64 k4, .int .i64 n4, .string s4, .int .i64 x4, .int .i64 y4] 25))
  replace HB := Lib.hid (below_box HB.out (.cells #[.int .i64 k4, .int .i64 n4, .string s4, .int .i64 x4, .int .i64 y4] 25))
  obtain ⟨me20, me21, me22, me23, me24⟩ := five He.out
  obtain ⟨mf20, mf21, mf22, mf23, mf24⟩ := five Hf.out
  go_wp2_with (fail)
  go_ret
  exact ⟨rfl, HB.out⟩
set_option maxHeartbeats 4000000 in
theorem folds_13_1 (q : Int) (hq : 0 ≤ q ∧ q < 256) (c : ByteArray) (hc : ([.string ⟨#[115, 117, 109]⟩, .string ⟨#[109, 97, 120]⟩, .string ⟨#[109, 105, 110]⟩, .string ⟨#[103, 99, 100]⟩] : List Value)[(q % 4).toNat]? = some (.string c)) (k0 n0 x0 y0 k1 n1 x1 y1 k2 n2 x2 y2 k3 n3 x3 y3 k4 n4 x4 y4 : Int) (s0 s1 s2 s3 s4 : ByteArray) (w : World) (F1 : Hid (∀ w, Calls Try.prog 5 #[.string c, .agg #[.int .i64 k0, .int .i64 n0, .string s0, .int .i64 x0, .int .i64 y0], .agg #[.int .i64 k1, .int .i64 n1, .string s1, .int .i64 x1, .int .i64 y1]] w (Gives (.tuple #[.agg #[.int .i64 k3, .int .i64 n3, .string s3, .int .i64 x3, .int .i64 y3], .int .i64 13]) w))) (F2 : Hid (∀ w, Calls Try.prog 5 #[.string c, .agg #[.int .i64 k1, .int .i64 n1, .string s1, .int .i64 x1, .int .i64 y1], .agg #[.int .i64 k0, .int .i64 n0, .string s0, .int .i64 x0, .int .i64 y0]] w (Gives (.tuple #[.agg #[.int .i64 k3, .int .i64 n3, .string s3, .int .i64 x3, .int .i64 y3], .int .i64 13]) w))) (F3 : Hid (∀ w, Calls Try.prog 5 #[.string c, .agg #[.int .i64 k1, .int .i64 n1, .string s1, .int .i64 x1, .int .i64 y1], .agg #[.int .i64 k2, .int .i64 n2, .string s2, .int .i64 x2, .int .i64 y2]] w (Gives (.tuple #[.agg #[.int .i64 k4, .int .i64 n4, .string s4, .int .i64 x4, .int .i64 y4], .int .i64 1]) w))) :
    Calls Try.prog 3 #[.int .u8 q, .agg #[.int .i64 k0, .int .i64 n0, .string s0, .int .i64 x0, .int .i64 y0], .agg #[.int .i64 k1, .int .i64 n1, .string s1, .int .i64 x1, .int .i64 y1], .agg #[.int .i64 k2, .int .i64 n2, .string s2, .int .i64 x2, .int .i64 y2]] w (Gives (.bool true) w) := by
  obtain ⟨D1, D2, D3, hb0⟩ := two_boxes w 25 [.int .i64 k0, .int .i64 n0, .string s0, .int .i64 x0, .int .i64 y0] [.int .i64 k1, .int .i64 n1, .string s1, .int .i64 x1, .int .i64 y1] [.int .i64 k2, .int .i64 n2, .string s2, .int .i64 x2, .int .i64 y2]
  have Ha := Lib.hid D1; have Hb := Lib.hid D2; have Hc := Lib.hid D3; have HB := Lib.hid hb0; clear D1 D2 D3 hb0
  go_enter Try.func3, Try.ntmps3
  go_wp2_with (fail)
  refine (awake_any _).mono ?_
  rintro e w1 ⟨rfl, hb⟩
  replace Ha := Lib.hid (Ha.out.next hb)
  replace Hb := Lib.hid (Hb.out.next hb)
  replace Hc := Lib.hid (Hc.out.next hb)
  replace HB := Lib.hid (Below.next HB.out hb)
  clear hb
  replace Ha := Lib.hid (Ha.out.old (.cells #[.string ⟨#[115, 117, 109]⟩, .string ⟨#[109, 97, 120]⟩, .string ⟨#[109, 105, 110]⟩, .string ⟨#[103, 99, 100]⟩] 9))
  replace Hb := Lib.hid (Hb.out.old (.cells #[.string ⟨#[115, 117, 109]⟩, .string ⟨#[109, 97, 120]⟩, .string ⟨#[109, 105, 110]⟩, .string ⟨#[103, 99, 100]⟩] 9))
  replace Hc := Lib.hid (Hc.out.old (.cells #[.string ⟨#[115, 117, 109]⟩, .string ⟨#[109, 97, 120]⟩, .string ⟨#[109, 105, 110]⟩, .string ⟨#[103, 99, 100]⟩] 9))
  replace HB := Lib.hid (below_box HB.out (.cells #[.string ⟨#[115, 117, 109]⟩, .string ⟨#[109, 97, 120]⟩, .string ⟨#[109, 105, 110]⟩, .string ⟨#[103, 99, 100]⟩] 9))
  obtain ⟨ca0, ca1, ca2, ca3, ca4⟩ := five Ha.out
  obtain ⟨cb0, cb1, cb2, cb3, cb4⟩ := five Hb.out
  go_wp2_with (fail)
  clear ca0 ca1 ca2 ca3 ca4 cb0 cb1 cb2 cb3 cb4
  clear hc hq
  generalize w1.alloc (.cells #[.string ⟨#[115, 117, 109]⟩, .string ⟨#[109, 97, 120]⟩, .string ⟨#[109, 105, 110]⟩, .string ⟨#[103, 99, 100]⟩] 9) = v1 at *
  refine (F1.out _).mono ?_
  rintro e w2 ⟨rfl, hb⟩
  replace Ha := Lib.hid (Ha.out.next hb)
  replace Hb := Lib.hid (Hb.out.next hb)
  replace Hc := Lib.hid (Hc.out.next hb)
  replace HB := Lib.hid (Below.next HB.out hb)
  clear hb
  have Hp := Lib.hid (made5 w2 25 (.int .i64 k3) (.int .i64 n3) (.string s3) (.int .i64 x3) (.int .i64 y3))
  have lap := Ha.out.lt
  replace Ha := Lib.hid (Ha.out.old (.cells #[.int .i64 k3, .int .i64 n3, .string s3, .int .i64 x3, .int .i64 y3] 25))
  have lbp := Hb.out.lt
  replace Hb := Lib.hid (Hb.out.old (.cells #[.int .i64 k3, .int .i64 n3, .string s3, .int .i64 x3, .int .i64 y3] 25))
  have lcp := Hc.out.lt
  replace Hc := Lib.hid (Hc.out.old (.cells #[.int .i64 k3, .int .i64 n3, .string s3, .int .i64 x3, .int .i64 y3] 25))
  replace HB := Lib.hid (below_box HB.out (.cells #[.int .i64 k3, .int .i64 n3, .string s3, .int .i64 x3, .int .i64 y3] 25))
  obtain ⟨cb0, cb1, cb2, cb3, cb4⟩ := five Hb.out
  obtain ⟨ca0, ca1, ca2, ca3, ca4⟩ := five Ha.out
  go_wp2_with (fail)
  clear cb0 cb1 cb2 cb3 cb4 ca0 ca1 ca2 ca3 ca4
  generalize w2.alloc (.cells #[.int .i64 k3, .int .i64 n3, .string s3, .int .i64 x3, .int .i64 y3] 25) = v2 at *
  refine (F2.out _).mono ?_
  rintro e w3 ⟨rfl, hb⟩
  replace Ha := Lib.hid (Ha.out.next hb)
  replace Hb := Lib.hid (Hb.out.next hb)
  replace Hc := Lib.hid (Hc.out.next hb)
  replace Hp := Lib.hid (Hp.out.next hb)
  replace HB := Lib.hid (Below.next HB.out hb)
  clear hb
  have Hr := Lib.hid (made5 w3 25 (.int .i64 k3) (.int .i64 n3) (.string s3) (.int .i64 x3) (.int .i64 y3))
  have lar := Ha.out.lt
  replace Ha := Lib.hid (Ha.out.old (.cells #[.int .i64 k3, .int .i64 n3, .string s3, .int .i64 x3, .int .i64 y3] 25))
  have lbr := Hb.out.lt
  replace Hb := Lib.hid (Hb.out.old (.cells #[.int .i64 k3, .int .i64 n3, .string s3, .int .i64 x3, .int .i64 y3] 25))
  have lcr := Hc.out.lt
  replace Hc := Lib.hid (Hc.out.old (.cells #[.int .i64 k3, .int .i64 n3, .string s3, .int .i64 x3, .int .i64 y3] 25))
  have lpr := Hp.out.lt
  replace Hp := Lib.hid (Hp.out.old (.cells #[.int .i64 k3, .int .i64 n3, .string s3, .int .i64 x3, .int .i64 y3] 25))
  replace HB := Lib.hid (below_box HB.out (.cells #[.int .i64 k3, .int .i64 n3, .string s3, .int .i64 x3, .int .i64 y3] 25))
  have hv := eql_val k3 n3 x3 y3 k3 n3 x3 y3 s3 s3
  rw [ve_self] at hv
  obtain ⟨cp0, cp1, cp2, cp3, cp4⟩ := five Hp.out
  obtain ⟨cr0, cr1, cr2, cr3, cr4⟩ := five Hr.out
  obtain ⟨cb0, cb1, cb2, cb3, cb4⟩ := five Hb.out
  obtain ⟨cc0, cc1, cc2, cc3, cc4⟩ := five Hc.out
  go_wp2_with (fail)
  clear cp0 cp1 cp2 cp3 cp4 cr0 cr1 cr2 cr3 cr4 cb0 cb1 cb2 cb3 cb4 cc0 cc1 cc2 cc3 cc4
  generalize w3.alloc (.cells #[.int .i64 k3, .int .i64 n3, .string s3, .int .i64 x3, .int .i64 y3] 25) = v3 at *
  clear F1 F2
  clear Hr
  clear Hb
  clear Ha
  clear Hc
  refine (F3.out _).mono ?_
  rintro e w4 ⟨rfl, hb⟩
  replace Hp := Lib.hid (Hp.out.next hb)
  replace HB := Lib.hid (Below.next HB.out hb)
  clear hb
  have hz : w.heap.size ≤ w4.heap.size := HB.out.size
  have lp := Hp.out.lt
  obtain ⟨cp0, cp1, cp2, cp3, cp4⟩ := five Hp.out
  have Hd := Lib.hid (made5 w4 25 (.int .i64 k4) (.int .i64 n4) (.string s4) (.int .i64 x4) (.int .i64 y4))
  replace Hp := Lib.hid (Hp.out.old (.cells #[.int .i64 k4, .int .i64 n4, .string s4, .int .i64 x4, .int .i64 y4] 25))
  replace HB := Lib.hid (below_box HB.out (.cells #[.int .i64 k4, .int .i64 n4, .string s4, .int .i64 x4, .int .i64 y4] 25))
  have He := Lib.hid (made5' w4 (.cells #[.int .i64 k4, .int .i64 n4, .string s4, .int .i64 x4, .int .i64 y4] 25) 25 (.int .i64 k3) (.int .i64 n3) (.string s3) (.int .i64 x3) (.int .i64 y3))
  replace Hp := Lib.hid (Hp.out.old (.cells #[.int .i64 k3, .int .i64 n3, .string s3, .int .i64 x3, .int .i64 y3] 25))
  replace Hd := Lib.hid (Hd.out.old (.cells #[.int .i64 k3, .int .i64 n3, .string s3, .int .i64 x3, .int .i64 y3] 25))
  replace HB := Lib.hid (below_box HB.out (.cells #[.int .i64 k3, .int .i64 n3, .string s3, .int .i64 x3, .int .i64 y3] 25))
  obtain ⟨md10, md11, md12, md13, md14⟩ := five Hd.out
  have Hf := Lib.hid (made5'' w4 (.cells #[.int .i64 k4, .int .i64 n4, .string s4, .int .i64 x4, .int .i64 y4] 25) (.cells #[.int .i64 k3, .int .i64 n3, .string s3, .int .i64 x3, .int .i64 y3] 25) 25 (.int .i64 k4) (.int .i64 n4) (.string s4) (.int .i64 x4) (.int .i64 y4))
  replace Hp := Lib.hid (Hp.out.old (.cells #[.int .i64 k4, .int .i64 n4, .string s4, .int .i64 x4, .int .i64 y4] 25))
  replace Hd := Lib.hid (Hd.out.old (.cells #[.int .i64 k4, .int .i64 n4, .string s4, .int .i64 x4, .int .i64 y4] 25))
  replace He := Lib.hid (He.out.old (.cells #[.int .i64 k4, .int .i64 n4, .string s4, .int .i64 x4, .int .i64 y4] 25))
  replace HB := Lib.hid (below_box HB.out (.cells #[.int .i64 k4, .int .i64 n4, .string s4, .int .i64 x4, .int .i64 y4] 25))
  obtain ⟨me20, me21, me22, me23, me24⟩ := five He.out
  obtain ⟨mf20, mf21, mf22, mf23, mf24⟩ := five Hf.out
  go_wp2_with (fail)
  go_ret
  exact ⟨rfl, HB.out⟩
set_option maxHeartbeats 4000000 in
theorem folds_1_13 (q : Int) (hq : 0 ≤ q ∧ q < 256) (c : ByteArray) (hc : ([.string ⟨#[115, 117, 109]⟩, .string ⟨#[109, 97, 120]⟩, .string ⟨#[109, 105, 110]⟩, .string ⟨#[103, 99, 100]⟩] : List Value)[(q % 4).toNat]? = some (.string c)) (k0 n0 x0 y0 k1 n1 x1 y1 k2 n2 x2 y2 k3 n3 x3 y3 k4 n4 x4 y4 : Int) (s0 s1 s2 s3 s4 : ByteArray) (w : World) (F1 : Hid (∀ w, Calls Try.prog 5 #[.string c, .agg #[.int .i64 k0, .int .i64 n0, .string s0, .int .i64 x0, .int .i64 y0], .agg #[.int .i64 k1, .int .i64 n1, .string s1, .int .i64 x1, .int .i64 y1]] w (Gives (.tuple #[.agg #[.int .i64 k3, .int .i64 n3, .string s3, .int .i64 x3, .int .i64 y3], .int .i64 1]) w))) (F2 : Hid (∀ w, Calls Try.prog 5 #[.string c, .agg #[.int .i64 k1, .int .i64 n1, .string s1, .int .i64 x1, .int .i64 y1], .agg #[.int .i64 k0, .int .i64 n0, .string s0, .int .i64 x0, .int .i64 y0]] w (Gives (.tuple #[.agg #[.int .i64 k3, .int .i64 n3, .string s3, .int .i64 x3, .int .i64 y3], .int .i64 1]) w))) (F3 : Hid (∀ w, Calls Try.prog 5 #[.string c, .agg #[.int .i64 k1, .int .i64 n1, .string s1, .int .i64 x1, .int .i64 y1], .agg #[.int .i64 k2, .int .i64 n2, .string s2, .int .i64 x2, .int .i64 y2]] w (Gives (.tuple #[.agg #[.int .i64 k4, .int .i64 n4, .string s4, .int .i64 x4, .int .i64 y4], .int .i64 13]) w))) :
    Calls Try.prog 3 #[.int .u8 q, .agg #[.int .i64 k0, .int .i64 n0, .string s0, .int .i64 x0, .int .i64 y0], .agg #[.int .i64 k1, .int .i64 n1, .string s1, .int .i64 x1, .int .i64 y1], .agg #[.int .i64 k2, .int .i64 n2, .string s2, .int .i64 x2, .int .i64 y2]] w (Gives (.bool true) w) := by
  obtain ⟨D1, D2, D3, hb0⟩ := two_boxes w 25 [.int .i64 k0, .int .i64 n0, .string s0, .int .i64 x0, .int .i64 y0] [.int .i64 k1, .int .i64 n1, .string s1, .int .i64 x1, .int .i64 y1] [.int .i64 k2, .int .i64 n2, .string s2, .int .i64 x2, .int .i64 y2]
  have Ha := Lib.hid D1; have Hb := Lib.hid D2; have Hc := Lib.hid D3; have HB := Lib.hid hb0; clear D1 D2 D3 hb0
  go_enter Try.func3, Try.ntmps3
  go_wp2_with (fail)
  refine (awake_any _).mono ?_
  rintro e w1 ⟨rfl, hb⟩
  replace Ha := Lib.hid (Ha.out.next hb)
  replace Hb := Lib.hid (Hb.out.next hb)
  replace Hc := Lib.hid (Hc.out.next hb)
  replace HB := Lib.hid (Below.next HB.out hb)
  clear hb
  replace Ha := Lib.hid (Ha.out.old (.cells #[.string ⟨#[115, 117, 109]⟩, .string ⟨#[109, 97, 120]⟩, .string ⟨#[109, 105, 110]⟩, .string ⟨#[103, 99, 100]⟩] 9))
  replace Hb := Lib.hid (Hb.out.old (.cells #[.string ⟨#[115, 117, 109]⟩, .string ⟨#[109, 97, 120]⟩, .string ⟨#[109, 105, 110]⟩, .string ⟨#[103, 99, 100]⟩] 9))
  replace Hc := Lib.hid (Hc.out.old (.cells #[.string ⟨#[115, 117, 109]⟩, .string ⟨#[109, 97, 120]⟩, .string ⟨#[109, 105, 110]⟩, .string ⟨#[103, 99, 100]⟩] 9))
  replace HB := Lib.hid (below_box HB.out (.cells #[.string ⟨#[115, 117, 109]⟩, .string ⟨#[109, 97, 120]⟩, .string ⟨#[109, 105, 110]⟩, .string ⟨#[103, 99, 100]⟩] 9))
  obtain ⟨ca0, ca1, ca2, ca3, ca4⟩ := five Ha.out
  obtain ⟨cb0, cb1, cb2, cb3, cb4⟩ := five Hb.out
  go_wp2_with (fail)
  clear ca0 ca1 ca2 ca3 ca4 cb0 cb1 cb2 cb3 cb4
  clear hc hq
  generalize w1.alloc (.cells #[.string ⟨#[115, 117, 109]⟩, .string ⟨#[109, 97, 120]⟩, .string ⟨#[109, 105, 110]⟩, .string ⟨#[103, 99, 100]⟩] 9) = v1 at *
  refine (F1.out _).mono ?_
  rintro e w2 ⟨rfl, hb⟩
  replace Ha := Lib.hid (Ha.out.next hb)
  replace Hb := Lib.hid (Hb.out.next hb)
  replace Hc := Lib.hid (Hc.out.next hb)
  replace HB := Lib.hid (Below.next HB.out hb)
  clear hb
  have Hp := Lib.hid (made5 w2 25 (.int .i64 k3) (.int .i64 n3) (.string s3) (.int .i64 x3) (.int .i64 y3))
  have lap := Ha.out.lt
  replace Ha := Lib.hid (Ha.out.old (.cells #[.int .i64 k3, .int .i64 n3, .string s3, .int .i64 x3, .int .i64 y3] 25))
  have lbp := Hb.out.lt
  replace Hb := Lib.hid (Hb.out.old (.cells #[.int .i64 k3, .int .i64 n3, .string s3, .int .i64 x3, .int .i64 y3] 25))
  have lcp := Hc.out.lt
  replace Hc := Lib.hid (Hc.out.old (.cells #[.int .i64 k3, .int .i64 n3, .string s3, .int .i64 x3, .int .i64 y3] 25))
  replace HB := Lib.hid (below_box HB.out (.cells #[.int .i64 k3, .int .i64 n3, .string s3, .int .i64 x3, .int .i64 y3] 25))
  obtain ⟨cb0, cb1, cb2, cb3, cb4⟩ := five Hb.out
  obtain ⟨ca0, ca1, ca2, ca3, ca4⟩ := five Ha.out
  go_wp2_with (fail)
  clear cb0 cb1 cb2 cb3 cb4 ca0 ca1 ca2 ca3 ca4
  generalize w2.alloc (.cells #[.int .i64 k3, .int .i64 n3, .string s3, .int .i64 x3, .int .i64 y3] 25) = v2 at *
  refine (F2.out _).mono ?_
  rintro e w3 ⟨rfl, hb⟩
  replace Ha := Lib.hid (Ha.out.next hb)
  replace Hb := Lib.hid (Hb.out.next hb)
  replace Hc := Lib.hid (Hc.out.next hb)
  replace Hp := Lib.hid (Hp.out.next hb)
  replace HB := Lib.hid (Below.next HB.out hb)
  clear hb
  have Hr := Lib.hid (made5 w3 25 (.int .i64 k3) (.int .i64 n3) (.string s3) (.int .i64 x3) (.int .i64 y3))
  have lar := Ha.out.lt
  replace Ha := Lib.hid (Ha.out.old (.cells #[.int .i64 k3, .int .i64 n3, .string s3, .int .i64 x3, .int .i64 y3] 25))
  have lbr := Hb.out.lt
  replace Hb := Lib.hid (Hb.out.old (.cells #[.int .i64 k3, .int .i64 n3, .string s3, .int .i64 x3, .int .i64 y3] 25))
  have lcr := Hc.out.lt
  replace Hc := Lib.hid (Hc.out.old (.cells #[.int .i64 k3, .int .i64 n3, .string s3, .int .i64 x3, .int .i64 y3] 25))
  have lpr := Hp.out.lt
  replace Hp := Lib.hid (Hp.out.old (.cells #[.int .i64 k3, .int .i64 n3, .string s3, .int .i64 x3, .int .i64 y3] 25))
  replace HB := Lib.hid (below_box HB.out (.cells #[.int .i64 k3, .int .i64 n3, .string s3, .int .i64 x3, .int .i64 y3] 25))
  have hv := eql_val k3 n3 x3 y3 k3 n3 x3 y3 s3 s3
  rw [ve_self] at hv
  obtain ⟨cp0, cp1, cp2, cp3, cp4⟩ := five Hp.out
  obtain ⟨cr0, cr1, cr2, cr3, cr4⟩ := five Hr.out
  obtain ⟨cb0, cb1, cb2, cb3, cb4⟩ := five Hb.out
  obtain ⟨cc0, cc1, cc2, cc3, cc4⟩ := five Hc.out
  go_wp2_with (fail)
  clear cp0 cp1 cp2 cp3 cp4 cr0 cr1 cr2 cr3 cr4 cb0 cb1 cb2 cb3 cb4 cc0 cc1 cc2 cc3 cc4
  generalize w3.alloc (.cells #[.int .i64 k3, .int .i64 n3, .string s3, .int .i64 x3, .int .i64 y3] 25) = v3 at *
  clear F1 F2
  clear Hr
  clear Hb
  clear Ha
  clear Hc
  refine (F3.out _).mono ?_
  rintro e w4 ⟨rfl, hb⟩
  replace Hp := Lib.hid (Hp.out.next hb)
  replace HB := Lib.hid (Below.next HB.out hb)
  clear hb
  have hz : w.heap.size ≤ w4.heap.size := HB.out.size
  have lp := Hp.out.lt
  obtain ⟨cp0, cp1, cp2, cp3, cp4⟩ := five Hp.out
  have Hd := Lib.hid (made5 w4 25 (.int .i64 k4) (.int .i64 n4) (.string s4) (.int .i64 x4) (.int .i64 y4))
  replace Hp := Lib.hid (Hp.out.old (.cells #[.int .i64 k4, .int .i64 n4, .string s4, .int .i64 x4, .int .i64 y4] 25))
  replace HB := Lib.hid (below_box HB.out (.cells #[.int .i64 k4, .int .i64 n4, .string s4, .int .i64 x4, .int .i64 y4] 25))
  have He := Lib.hid (made5' w4 (.cells #[.int .i64 k4, .int .i64 n4, .string s4, .int .i64 x4, .int .i64 y4] 25) 25 (.int .i64 k3) (.int .i64 n3) (.string s3) (.int .i64 x3) (.int .i64 y3))
  replace Hp := Lib.hid (Hp.out.old (.cells #[.int .i64 k3, .int .i64 n3, .string s3, .int .i64 x3, .int .i64 y3] 25))
  replace Hd := Lib.hid (Hd.out.old (.cells #[.int .i64 k3, .int .i64 n3, .string s3, .int .i64 x3, .int .i64 y3] 25))
  replace HB := Lib.hid (below_box HB.out (.cells #[.int .i64 k3, .int .i64 n3, .string s3, .int .i64 x3, .int .i64 y3] 25))
  obtain ⟨md10, md11, md12, md13, md14⟩ := five Hd.out
  have Hf := Lib.hid (made5'' w4 (.cells #[.int .i64 k4, .int .i64 n4, .string s4, .int .i64 x4, .int .i64 y4] 25) (.cells #[.int .i64 k3, .int .i64 n3, .string s3, .int .i64 x3, .int .i64 y3] 25) 25 (.int .i64 k4) (.int .i64 n4) (.string s4) (.int .i64 x4) (.int .i64 y4))
  replace Hp := Lib.hid (Hp.out.old (.cells #[.int .i64 k4, .int .i64 n4, .string s4, .int .i64 x4, .int .i64 y4] 25))
  replace Hd := Lib.hid (Hd.out.old (.cells #[.int .i64 k4, .int .i64 n4, .string s4, .int .i64 x4, .int .i64 y4] 25))
  replace He := Lib.hid (He.out.old (.cells #[.int .i64 k4, .int .i64 n4, .string s4, .int .i64 x4, .int .i64 y4] 25))
  replace HB := Lib.hid (below_box HB.out (.cells #[.int .i64 k4, .int .i64 n4, .string s4, .int .i64 x4, .int .i64 y4] 25))
  obtain ⟨me20, me21, me22, me23, me24⟩ := five He.out
  obtain ⟨mf20, mf21, mf22, mf23, mf24⟩ := five Hf.out
  go_wp2_with (fail)
  go_ret
  exact ⟨rfl, HB.out⟩
set_option maxHeartbeats 4000000 in
theorem folds_1_1 (q : Int) (hq : 0 ≤ q ∧ q < 256) (c : ByteArray) (hc : ([.string ⟨#[115, 117, 109]⟩, .string ⟨#[109, 97, 120]⟩, .string ⟨#[109, 105, 110]⟩, .string ⟨#[103, 99, 100]⟩] : List Value)[(q % 4).toNat]? = some (.string c)) (k0 n0 x0 y0 k1 n1 x1 y1 k2 n2 x2 y2 k3 n3 x3 y3 k4 n4 x4 y4 : Int) (s0 s1 s2 s3 s4 : ByteArray) (w : World) (F1 : Hid (∀ w, Calls Try.prog 5 #[.string c, .agg #[.int .i64 k0, .int .i64 n0, .string s0, .int .i64 x0, .int .i64 y0], .agg #[.int .i64 k1, .int .i64 n1, .string s1, .int .i64 x1, .int .i64 y1]] w (Gives (.tuple #[.agg #[.int .i64 k3, .int .i64 n3, .string s3, .int .i64 x3, .int .i64 y3], .int .i64 1]) w))) (F2 : Hid (∀ w, Calls Try.prog 5 #[.string c, .agg #[.int .i64 k1, .int .i64 n1, .string s1, .int .i64 x1, .int .i64 y1], .agg #[.int .i64 k0, .int .i64 n0, .string s0, .int .i64 x0, .int .i64 y0]] w (Gives (.tuple #[.agg #[.int .i64 k3, .int .i64 n3, .string s3, .int .i64 x3, .int .i64 y3], .int .i64 1]) w))) (F3 : Hid (∀ w, Calls Try.prog 5 #[.string c, .agg #[.int .i64 k1, .int .i64 n1, .string s1, .int .i64 x1, .int .i64 y1], .agg #[.int .i64 k2, .int .i64 n2, .string s2, .int .i64 x2, .int .i64 y2]] w (Gives (.tuple #[.agg #[.int .i64 k4, .int .i64 n4, .string s4, .int .i64 x4, .int .i64 y4], .int .i64 1]) w))) :
    Calls Try.prog 3 #[.int .u8 q, .agg #[.int .i64 k0, .int .i64 n0, .string s0, .int .i64 x0, .int .i64 y0], .agg #[.int .i64 k1, .int .i64 n1, .string s1, .int .i64 x1, .int .i64 y1], .agg #[.int .i64 k2, .int .i64 n2, .string s2, .int .i64 x2, .int .i64 y2]] w (Gives (.bool true) w) := by
  obtain ⟨D1, D2, D3, hb0⟩ := two_boxes w 25 [.int .i64 k0, .int .i64 n0, .string s0, .int .i64 x0, .int .i64 y0] [.int .i64 k1, .int .i64 n1, .string s1, .int .i64 x1, .int .i64 y1] [.int .i64 k2, .int .i64 n2, .string s2, .int .i64 x2, .int .i64 y2]
  have Ha := Lib.hid D1; have Hb := Lib.hid D2; have Hc := Lib.hid D3; have HB := Lib.hid hb0; clear D1 D2 D3 hb0
  go_enter Try.func3, Try.ntmps3
  go_wp2_with (fail)
  refine (awake_any _).mono ?_
  rintro e w1 ⟨rfl, hb⟩
  replace Ha := Lib.hid (Ha.out.next hb)
  replace Hb := Lib.hid (Hb.out.next hb)
  replace Hc := Lib.hid (Hc.out.next hb)
  replace HB := Lib.hid (Below.next HB.out hb)
  clear hb
  replace Ha := Lib.hid (Ha.out.old (.cells #[.string ⟨#[115, 117, 109]⟩, .string ⟨#[109, 97, 120]⟩, .string ⟨#[109, 105, 110]⟩, .string ⟨#[103, 99, 100]⟩] 9))
  replace Hb := Lib.hid (Hb.out.old (.cells #[.string ⟨#[115, 117, 109]⟩, .string ⟨#[109, 97, 120]⟩, .string ⟨#[109, 105, 110]⟩, .string ⟨#[103, 99, 100]⟩] 9))
  replace Hc := Lib.hid (Hc.out.old (.cells #[.string ⟨#[115, 117, 109]⟩, .string ⟨#[109, 97, 120]⟩, .string ⟨#[109, 105, 110]⟩, .string ⟨#[103, 99, 100]⟩] 9))
  replace HB := Lib.hid (below_box HB.out (.cells #[.string ⟨#[115, 117, 109]⟩, .string ⟨#[109, 97, 120]⟩, .string ⟨#[109, 105, 110]⟩, .string ⟨#[103, 99, 100]⟩] 9))
  obtain ⟨ca0, ca1, ca2, ca3, ca4⟩ := five Ha.out
  obtain ⟨cb0, cb1, cb2, cb3, cb4⟩ := five Hb.out
  go_wp2_with (fail)
  clear ca0 ca1 ca2 ca3 ca4 cb0 cb1 cb2 cb3 cb4
  clear hc hq
  generalize w1.alloc (.cells #[.string ⟨#[115, 117, 109]⟩, .string ⟨#[109, 97, 120]⟩, .string ⟨#[109, 105, 110]⟩, .string ⟨#[103, 99, 100]⟩] 9) = v1 at *
  refine (F1.out _).mono ?_
  rintro e w2 ⟨rfl, hb⟩
  replace Ha := Lib.hid (Ha.out.next hb)
  replace Hb := Lib.hid (Hb.out.next hb)
  replace Hc := Lib.hid (Hc.out.next hb)
  replace HB := Lib.hid (Below.next HB.out hb)
  clear hb
  have Hp := Lib.hid (made5 w2 25 (.int .i64 k3) (.int .i64 n3) (.string s3) (.int .i64 x3) (.int .i64 y3))
  have lap := Ha.out.lt
  replace Ha := Lib.hid (Ha.out.old (.cells #[.int .i64 k3, .int .i64 n3, .string s3, .int .i64 x3, .int .i64 y3] 25))
  have lbp := Hb.out.lt
  replace Hb := Lib.hid (Hb.out.old (.cells #[.int .i64 k3, .int .i64 n3, .string s3, .int .i64 x3, .int .i64 y3] 25))
  have lcp := Hc.out.lt
  replace Hc := Lib.hid (Hc.out.old (.cells #[.int .i64 k3, .int .i64 n3, .string s3, .int .i64 x3, .int .i64 y3] 25))
  replace HB := Lib.hid (below_box HB.out (.cells #[.int .i64 k3, .int .i64 n3, .string s3, .int .i64 x3, .int .i64 y3] 25))
  obtain ⟨cb0, cb1, cb2, cb3, cb4⟩ := five Hb.out
  obtain ⟨ca0, ca1, ca2, ca3, ca4⟩ := five Ha.out
  go_wp2_with (fail)
  clear cb0 cb1 cb2 cb3 cb4 ca0 ca1 ca2 ca3 ca4
  generalize w2.alloc (.cells #[.int .i64 k3, .int .i64 n3, .string s3, .int .i64 x3, .int .i64 y3] 25) = v2 at *
  refine (F2.out _).mono ?_
  rintro e w3 ⟨rfl, hb⟩
  replace Ha := Lib.hid (Ha.out.next hb)
  replace Hb := Lib.hid (Hb.out.next hb)
  replace Hc := Lib.hid (Hc.out.next hb)
  replace Hp := Lib.hid (Hp.out.next hb)
  replace HB := Lib.hid (Below.next HB.out hb)
  clear hb
  have Hr := Lib.hid (made5 w3 25 (.int .i64 k3) (.int .i64 n3) (.string s3) (.int .i64 x3) (.int .i64 y3))
  have lar := Ha.out.lt
  replace Ha := Lib.hid (Ha.out.old (.cells #[.int .i64 k3, .int .i64 n3, .string s3, .int .i64 x3, .int .i64 y3] 25))
  have lbr := Hb.out.lt
  replace Hb := Lib.hid (Hb.out.old (.cells #[.int .i64 k3, .int .i64 n3, .string s3, .int .i64 x3, .int .i64 y3] 25))
  have lcr := Hc.out.lt
  replace Hc := Lib.hid (Hc.out.old (.cells #[.int .i64 k3, .int .i64 n3, .string s3, .int .i64 x3, .int .i64 y3] 25))
  have lpr := Hp.out.lt
  replace Hp := Lib.hid (Hp.out.old (.cells #[.int .i64 k3, .int .i64 n3, .string s3, .int .i64 x3, .int .i64 y3] 25))
  replace HB := Lib.hid (below_box HB.out (.cells #[.int .i64 k3, .int .i64 n3, .string s3, .int .i64 x3, .int .i64 y3] 25))
  have hv := eql_val k3 n3 x3 y3 k3 n3 x3 y3 s3 s3
  rw [ve_self] at hv
  obtain ⟨cp0, cp1, cp2, cp3, cp4⟩ := five Hp.out
  obtain ⟨cr0, cr1, cr2, cr3, cr4⟩ := five Hr.out
  obtain ⟨cb0, cb1, cb2, cb3, cb4⟩ := five Hb.out
  obtain ⟨cc0, cc1, cc2, cc3, cc4⟩ := five Hc.out
  go_wp2_with (fail)
  clear cp0 cp1 cp2 cp3 cp4 cr0 cr1 cr2 cr3 cr4 cb0 cb1 cb2 cb3 cb4 cc0 cc1 cc2 cc3 cc4
  generalize w3.alloc (.cells #[.int .i64 k3, .int .i64 n3, .string s3, .int .i64 x3, .int .i64 y3] 25) = v3 at *
  clear F1 F2
  clear Hr
  clear Hb
  clear Ha
  clear Hc
  refine (F3.out _).mono ?_
  rintro e w4 ⟨rfl, hb⟩
  replace Hp := Lib.hid (Hp.out.next hb)
  replace HB := Lib.hid (Below.next HB.out hb)
  clear hb
  have hz : w.heap.size ≤ w4.heap.size := HB.out.size
  have lp := Hp.out.lt
  obtain ⟨cp0, cp1, cp2, cp3, cp4⟩ := five Hp.out
  have Hd := Lib.hid (made5 w4 25 (.int .i64 k4) (.int .i64 n4) (.string s4) (.int .i64 x4) (.int .i64 y4))
  replace Hp := Lib.hid (Hp.out.old (.cells #[.int .i64 k4, .int .i64 n4, .string s4, .int .i64 x4, .int .i64 y4] 25))
  replace HB := Lib.hid (below_box HB.out (.cells #[.int .i64 k4, .int .i64 n4, .string s4, .int .i64 x4, .int .i64 y4] 25))
  have He := Lib.hid (made5' w4 (.cells #[.int .i64 k4, .int .i64 n4, .string s4, .int .i64 x4, .int .i64 y4] 25) 25 (.int .i64 k3) (.int .i64 n3) (.string s3) (.int .i64 x3) (.int .i64 y3))
  replace Hp := Lib.hid (Hp.out.old (.cells #[.int .i64 k3, .int .i64 n3, .string s3, .int .i64 x3, .int .i64 y3] 25))
  replace Hd := Lib.hid (Hd.out.old (.cells #[.int .i64 k3, .int .i64 n3, .string s3, .int .i64 x3, .int .i64 y3] 25))
  replace HB := Lib.hid (below_box HB.out (.cells #[.int .i64 k3, .int .i64 n3, .string s3, .int .i64 x3, .int .i64 y3] 25))
  obtain ⟨md10, md11, md12, md13, md14⟩ := five Hd.out
  have Hf := Lib.hid (made5'' w4 (.cells #[.int .i64 k4, .int .i64 n4, .string s4, .int .i64 x4, .int .i64 y4] 25) (.cells #[.int .i64 k3, .int .i64 n3, .string s3, .int .i64 x3, .int .i64 y3] 25) 25 (.int .i64 k4) (.int .i64 n4) (.string s4) (.int .i64 x4) (.int .i64 y4))
  replace Hp := Lib.hid (Hp.out.old (.cells #[.int .i64 k4, .int .i64 n4, .string s4, .int .i64 x4, .int .i64 y4] 25))
  replace Hd := Lib.hid (Hd.out.old (.cells #[.int .i64 k4, .int .i64 n4, .string s4, .int .i64 x4, .int .i64 y4] 25))
  replace He := Lib.hid (He.out.old (.cells #[.int .i64 k4, .int .i64 n4, .string s4, .int .i64 x4, .int .i64 y4] 25))
  replace HB := Lib.hid (below_box HB.out (.cells #[.int .i64 k4, .int .i64 n4, .string s4, .int .i64 x4, .int .i64 y4] 25))
  obtain ⟨me20, me21, me22, me23, me24⟩ := five He.out
  obtain ⟨mf20, mf21, mf22, mf23, mf24⟩ := five Hf.out
  go_wp2_with (fail)
  go_ret
  exact ⟨rfl, HB.out⟩
end Go.Proofs.Ytimllihegnokeaa.Jo
