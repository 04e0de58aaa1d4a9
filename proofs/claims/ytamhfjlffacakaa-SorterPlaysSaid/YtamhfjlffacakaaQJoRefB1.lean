/-
  A text of this claim: JoRefB1.
-/
import Derived.Test.YtamhfjlffacakaaQ3
import Derived.Test.YtamhfjlffacakaaQVaRef
import Derived.Test.YtamhfjlffacakaaQ1
import Derived.Deep.Cut
namespace Go.Proofs.Ytamhfjlffacakaa.Jo
open Go.ChangeShapes Go.WideShapes Go.ChangeAt Go.RowKit Ov Ga Va
set_option maxHeartbeats 4000000 in
set_option maxRecDepth 100000 in
theorem rf_maxn (c : ByteArray) (k n x y n' x' y' : Int) (s s' : ByteArray) (w : World) (HF : Hid (∀ w, Calls Try.prog 47 #[.string c] w (Gives (.bool true) w))) (HA : Hid (∀ w, Calls Try.prog 22 #[.agg #[.int .i64 k, .int .i64 n, .string s, .int .i64 x, .int .i64 y]] w (Gives (.bool true) w))) (HQ : Hid (∀ w, Calls Try.prog 22 #[.agg #[.int .i64 k, .int .i64 n', .string s', .int .i64 x', .int .i64 y']] w (Gives (.bool true) w))) (qsum : (c.toList == [115, 117, 109]) = false) (qmax : (c.toList == [109, 97, 120]) = true) (qgcd : (c.toList == [103, 99, 100]) = false) (HO : Hid (∀ w, Calls Try.prog 48 #[.agg #[.int .i64 k, .int .i64 n, .string s, .int .i64 x, .int .i64 y], .agg #[.int .i64 k, .int .i64 n', .string s', .int .i64 x', .int .i64 y']] w (Gives (.int .i64 (-1)) w))) :
 Calls Try.prog 29 #[.string c, .agg #[.int .i64 k, .int .i64 n, .string s, .int .i64 x, .int .i64 y], .agg #[.int .i64 k, .int .i64 n', .string s', .int .i64 x', .int .i64 y']] w (Gives (.tuple #[.agg #[.int .i64 k, .int .i64 n', .string s', .int .i64 x', .int .i64 y'], .int .i64 0]) w) := by
 have hk1 : (k == 1) = true ∨ (k == 1) = false := by cases (k == 1) <;> simp
 obtain ⟨D1, D2, D3, hb0⟩ := two_boxes w 33 [.int .i64 k, .int .i64 n, .string s, .int .i64 x, .int .i64 y] [.int .i64 k, .int .i64 n', .string s', .int .i64 x', .int .i64 y'] [.int .i64 0, .int .i64 0, .string ⟨#[]⟩, .int .i64 0, .int .i64 0]
 have H1 := Lib.hid D1; have H2 := Lib.hid D2; have H3 := Lib.hid D3; have HB := Lib.hid hb0; clear D1 D2 D3 hb0
 go_enter Try.func29, Try.ntmps29
 go_wp2_with (fail)
 refine (HF.out _).mono ?_
 rintro e w17 ⟨rfl, hb⟩
 replace H1 := Lib.hid (H1.out.next hb); replace H2 := Lib.hid (H2.out.next hb); replace H3 := Lib.hid (H3.out.next hb); replace HB := Lib.hid (Below.next HB.out hb); clear hb
 obtain ⟨c0, c1, c2, c3, c4⟩ := five H1.out
 obtain ⟨d0, d1, d2, d3, d4⟩ := five H2.out
 go_wp2_with (fail)
 clear c0 c1 c2 c3 c4 d0 d1 d2 d3 d4
 refine (HA.out _).mono ?_
 rintro e w18 ⟨rfl, hb⟩
 replace H1 := Lib.hid (H1.out.next hb); replace H2 := Lib.hid (H2.out.next hb); replace H3 := Lib.hid (H3.out.next hb); replace HB := Lib.hid (Below.next HB.out hb); clear hb
 obtain ⟨c0, c1, c2, c3, c4⟩ := five H1.out
 obtain ⟨d0, d1, d2, d3, d4⟩ := five H2.out
 go_wp2_with (fail)
 clear c0 c1 c2 c3 c4 d0 d1 d2 d3 d4
 refine (HQ.out _).mono ?_
 rintro e w19 ⟨rfl, hb⟩
 replace H1 := Lib.hid (H1.out.next hb); replace H2 := Lib.hid (H2.out.next hb); replace H3 := Lib.hid (H3.out.next hb); replace HB := Lib.hid (Below.next HB.out hb); clear hb
 rcases hk1 with hk1 | hk1
 all_goals
  obtain ⟨c0, c1, c2, c3, c4⟩ := five H1.out
  obtain ⟨d0, d1, d2, d3, d4⟩ := five H2.out
  go_wp2_with (fail)
  clear c0 c1 c2 c3 c4 d0 d1 d2 d3 d4
  refine (HO.out _).mono ?_
  rintro e w16 ⟨rfl, hb⟩
  replace H1 := Lib.hid (H1.out.next hb); replace H2 := Lib.hid (H2.out.next hb); replace H3 := Lib.hid (H3.out.next hb); replace HB := Lib.hid (Below.next HB.out hb); clear hb
  obtain ⟨c0, c1, c2, c3, c4⟩ := five H1.out
  obtain ⟨d0, d1, d2, d3, d4⟩ := five H2.out
  obtain ⟨f0, f1, f2, f3, f4⟩ := thaw H3.out
  obtain ⟨e0, e1, e2, e3, e4⟩ := five H3.out
  go_wp2_with (fail)
  clear c0 c1 c2 c3 c4 d0 d1 d2 d3 d4
  clear f0 f1 f2 f3 f4 e0 e1 e2 e3 e4
  refine fin5 (P := bodyPost _ _ _ _ _) H3.out HB.out (by omega) _ _ _ _ _ fun w9 hx hy _ => ?_
  obtain ⟨c0, c1, c2, c3, c4⟩ := five hx
  exact bodyPost_ret (v := .tuple #[.agg #[.int .i64 k, .int .i64 n', .string s', .int .i64 x', .int .i64 y'], .int .i64 0]) (by simp [results, Try.results29, go_sem, c0, c1, c2, c3, c4]) rfl ⟨rfl, hy⟩
set_option maxHeartbeats 4000000 in
set_option maxRecDepth 100000 in
theorem rf_maxz (c : ByteArray) (k n x y n' x' y' : Int) (s s' : ByteArray) (w : World) (HF : Hid (∀ w, Calls Try.prog 47 #[.string c] w (Gives (.bool true) w))) (HA : Hid (∀ w, Calls Try.prog 22 #[.agg #[.int .i64 k, .int .i64 n, .string s, .int .i64 x, .int .i64 y]] w (Gives (.bool true) w))) (HQ : Hid (∀ w, Calls Try.prog 22 #[.agg #[.int .i64 k, .int .i64 n', .string s', .int .i64 x', .int .i64 y']] w (Gives (.bool true) w))) (qsum : (c.toList == [115, 117, 109]) = false) (qmax : (c.toList == [109, 97, 120]) = true) (qgcd : (c.toList == [103, 99, 100]) = false) (HO : Hid (∀ w, Calls Try.prog 48 #[.agg #[.int .i64 k, .int .i64 n, .string s, .int .i64 x, .int .i64 y], .agg #[.int .i64 k, .int .i64 n', .string s', .int .i64 x', .int .i64 y']] w (Gives (.int .i64 0) w))) :
 Calls Try.prog 29 #[.string c, .agg #[.int .i64 k, .int .i64 n, .string s, .int .i64 x, .int .i64 y], .agg #[.int .i64 k, .int .i64 n', .string s', .int .i64 x', .int .i64 y']] w (Gives (.tuple #[.agg #[.int .i64 k, .int .i64 n', .string s', .int .i64 x', .int .i64 y'], .int .i64 0]) w) := by
 have hk1 : (k == 1) = true ∨ (k == 1) = false := by cases (k == 1) <;> simp
 obtain ⟨D1, D2, D3, hb0⟩ := two_boxes w 33 [.int .i64 k, .int .i64 n, .string s, .int .i64 x, .int .i64 y] [.int .i64 k, .int .i64 n', .string s', .int .i64 x', .int .i64 y'] [.int .i64 0, .int .i64 0, .string ⟨#[]⟩, .int .i64 0, .int .i64 0]
 have H1 := Lib.hid D1; have H2 := Lib.hid D2; have H3 := Lib.hid D3; have HB := Lib.hid hb0; clear D1 D2 D3 hb0
 go_enter Try.func29, Try.ntmps29
 go_wp2_with (fail)
 refine (HF.out _).mono ?_
 rintro e w21 ⟨rfl, hb⟩
 replace H1 := Lib.hid (H1.out.next hb); replace H2 := Lib.hid (H2.out.next hb); replace H3 := Lib.hid (H3.out.next hb); replace HB := Lib.hid (Below.next HB.out hb); clear hb
 obtain ⟨c0, c1, c2, c3, c4⟩ := five H1.out
 obtain ⟨d0, d1, d2, d3, d4⟩ := five H2.out
 go_wp2_with (fail)
 clear c0 c1 c2 c3 c4 d0 d1 d2 d3 d4
 refine (HA.out _).mono ?_
 rintro e w22 ⟨rfl, hb⟩
 replace H1 := Lib.hid (H1.out.next hb); replace H2 := Lib.hid (H2.out.next hb); replace H3 := Lib.hid (H3.out.next hb); replace HB := Lib.hid (Below.next HB.out hb); clear hb
 obtain ⟨c0, c1, c2, c3, c4⟩ := five H1.out
 obtain ⟨d0, d1, d2, d3, d4⟩ := five H2.out
 go_wp2_with (fail)
 clear c0 c1 c2 c3 c4 d0 d1 d2 d3 d4
 refine (HQ.out _).mono ?_
 rintro e w23 ⟨rfl, hb⟩
 replace H1 := Lib.hid (H1.out.next hb); replace H2 := Lib.hid (H2.out.next hb); replace H3 := Lib.hid (H3.out.next hb); replace HB := Lib.hid (Below.next HB.out hb); clear hb
 rcases hk1 with hk1 | hk1
 all_goals
  obtain ⟨c0, c1, c2, c3, c4⟩ := five H1.out
  obtain ⟨d0, d1, d2, d3, d4⟩ := five H2.out
  go_wp2_with (fail)
  clear c0 c1 c2 c3 c4 d0 d1 d2 d3 d4
  refine (HO.out _).mono ?_
  rintro e w20 ⟨rfl, hb⟩
  replace H1 := Lib.hid (H1.out.next hb); replace H2 := Lib.hid (H2.out.next hb); replace H3 := Lib.hid (H3.out.next hb); replace HB := Lib.hid (Below.next HB.out hb); clear hb
  obtain ⟨c0, c1, c2, c3, c4⟩ := five H1.out
  obtain ⟨d0, d1, d2, d3, d4⟩ := five H2.out
  obtain ⟨f0, f1, f2, f3, f4⟩ := thaw H3.out
  obtain ⟨e0, e1, e2, e3, e4⟩ := five H3.out
  go_wp2_with (fail)
  clear c0 c1 c2 c3 c4 d0 d1 d2 d3 d4
  clear f0 f1 f2 f3 f4 e0 e1 e2 e3 e4
  refine fin5 (P := bodyPost _ _ _ _ _) H3.out HB.out (by omega) _ _ _ _ _ fun w9 hx hy _ => ?_
  obtain ⟨c0, c1, c2, c3, c4⟩ := five hx
  exact bodyPost_ret (v := .tuple #[.agg #[.int .i64 k, .int .i64 n', .string s', .int .i64 x', .int .i64 y'], .int .i64 0]) (by simp [results, Try.results29, go_sem, c0, c1, c2, c3, c4]) rfl ⟨rfl, hy⟩
set_option maxHeartbeats 4000000 in
set_option maxRecDepth 100000 in
theorem rf_maxp (c : ByteArray) (k n x y n' x' y' : Int) (s s' : ByteArray) (w : World) (HF : Hid (∀ w, Calls Try.prog 47 #[.string c] w (Gives (.bool true) w))) (HA : Hid (∀ w, Calls Try.prog 22 #[.agg #[.int .i64 k, .int .i64 n, .string s, .int .i64 x, .int .i64 y]] w (Gives (.bool true) w))) (HQ : Hid (∀ w, Calls Try.prog 22 #[.agg #[.int .i64 k, .int .i64 n', .string s', .int .i64 x', .int .i64 y']] w (Gives (.bool true) w))) (qsum : (c.toList == [115, 117, 109]) = false) (qmax : (c.toList == [109, 97, 120]) = true) (qgcd : (c.toList == [103, 99, 100]) = false) (HO : Hid (∀ w, Calls Try.prog 48 #[.agg #[.int .i64 k, .int .i64 n, .string s, .int .i64 x, .int .i64 y], .agg #[.int .i64 k, .int .i64 n', .string s', .int .i64 x', .int .i64 y']] w (Gives (.int .i64 1) w))) :
 Calls Try.prog 29 #[.string c, .agg #[.int .i64 k, .int .i64 n, .string s, .int .i64 x, .int .i64 y], .agg #[.int .i64 k, .int .i64 n', .string s', .int .i64 x', .int .i64 y']] w (Gives (.tuple #[.agg #[.int .i64 k, .int .i64 n, .string s, .int .i64 x, .int .i64 y], .int .i64 0]) w) := by
 have hk1 : (k == 1) = true ∨ (k == 1) = false := by cases (k == 1) <;> simp
 obtain ⟨D1, D2, D3, hb0⟩ := two_boxes w 33 [.int .i64 k, .int .i64 n, .string s, .int .i64 x, .int .i64 y] [.int .i64 k, .int .i64 n', .string s', .int .i64 x', .int .i64 y'] [.int .i64 0, .int .i64 0, .string ⟨#[]⟩, .int .i64 0, .int .i64 0]
 have H1 := Lib.hid D1; have H2 := Lib.hid D2; have H3 := Lib.hid D3; have HB := Lib.hid hb0; clear D1 D2 D3 hb0
 go_enter Try.func29, Try.ntmps29
 go_wp2_with (fail)
 refine (HF.out _).mono ?_
 rintro e w25 ⟨rfl, hb⟩
 replace H1 := Lib.hid (H1.out.next hb); replace H2 := Lib.hid (H2.out.next hb); replace H3 := Lib.hid (H3.out.next hb); replace HB := Lib.hid (Below.next HB.out hb); clear hb
 obtain ⟨c0, c1, c2, c3, c4⟩ := five H1.out
 obtain ⟨d0, d1, d2, d3, d4⟩ := five H2.out
 go_wp2_with (fail)
 clear c0 c1 c2 c3 c4 d0 d1 d2 d3 d4
 refine (HA.out _).mono ?_
 rintro e w26 ⟨rfl, hb⟩
 replace H1 := Lib.hid (H1.out.next hb); replace H2 := Lib.hid (H2.out.next hb); replace H3 := Lib.hid (H3.out.next hb); replace HB := Lib.hid (Below.next HB.out hb); clear hb
 obtain ⟨c0, c1, c2, c3, c4⟩ := five H1.out
 obtain ⟨d0, d1, d2, d3, d4⟩ := five H2.out
 go_wp2_with (fail)
 clear c0 c1 c2 c3 c4 d0 d1 d2 d3 d4
 refine (HQ.out _).mono ?_
 rintro e w27 ⟨rfl, hb⟩
 replace H1 := Lib.hid (H1.out.next hb); replace H2 := Lib.hid (H2.out.next hb); replace H3 := Lib.hid (H3.out.next hb); replace HB := Lib.hid (Below.next HB.out hb); clear hb
 rcases hk1 with hk1 | hk1
 all_goals
  obtain ⟨c0, c1, c2, c3, c4⟩ := five H1.out
  obtain ⟨d0, d1, d2, d3, d4⟩ := five H2.out
  go_wp2_with (fail)
  clear c0 c1 c2 c3 c4 d0 d1 d2 d3 d4
  refine (HO.out _).mono ?_
  rintro e w24 ⟨rfl, hb⟩
  replace H1 := Lib.hid (H1.out.next hb); replace H2 := Lib.hid (H2.out.next hb); replace H3 := Lib.hid (H3.out.next hb); replace HB := Lib.hid (Below.next HB.out hb); clear hb
  obtain ⟨c0, c1, c2, c3, c4⟩ := five H1.out
  obtain ⟨d0, d1, d2, d3, d4⟩ := five H2.out
  obtain ⟨f0, f1, f2, f3, f4⟩ := thaw H3.out
  obtain ⟨e0, e1, e2, e3, e4⟩ := five H3.out
  go_wp2_with (fail)
  clear c0 c1 c2 c3 c4 d0 d1 d2 d3 d4
  clear f0 f1 f2 f3 f4 e0 e1 e2 e3 e4
  refine fin5 (P := bodyPost _ _ _ _ _) H3.out HB.out (by omega) _ _ _ _ _ fun w9 hx hy _ => ?_
  obtain ⟨c0, c1, c2, c3, c4⟩ := five hx
  exact bodyPost_ret (v := .tuple #[.agg #[.int .i64 k, .int .i64 n, .string s, .int .i64 x, .int .i64 y], .int .i64 0]) (by simp [results, Try.results29, go_sem, c0, c1, c2, c3, c4]) rfl ⟨rfl, hy⟩
set_option maxHeartbeats 4000000 in
set_option maxRecDepth 100000 in
theorem rf_minn (c : ByteArray) (k n x y n' x' y' : Int) (s s' : ByteArray) (w : World) (HF : Hid (∀ w, Calls Try.prog 47 #[.string c] w (Gives (.bool true) w))) (HA : Hid (∀ w, Calls Try.prog 22 #[.agg #[.int .i64 k, .int .i64 n, .string s, .int .i64 x, .int .i64 y]] w (Gives (.bool true) w))) (HQ : Hid (∀ w, Calls Try.prog 22 #[.agg #[.int .i64 k, .int .i64 n', .string s', .int .i64 x', .int .i64 y']] w (Gives (.bool true) w))) (qsum : (c.toList == [115, 117, 109]) = false) (qmax : (c.toList == [109, 97, 120]) = false) (qmin : (c.toList == [109, 105, 110]) = true) (qgcd : (c.toList == [103, 99, 100]) = false) (HO : Hid (∀ w, Calls Try.prog 48 #[.agg #[.int .i64 k, .int .i64 n, .string s, .int .i64 x, .int .i64 y], .agg #[.int .i64 k, .int .i64 n', .string s', .int .i64 x', .int .i64 y']] w (Gives (.int .i64 (-1)) w))) :
 Calls Try.prog 29 #[.string c, .agg #[.int .i64 k, .int .i64 n, .string s, .int .i64 x, .int .i64 y], .agg #[.int .i64 k, .int .i64 n', .string s', .int .i64 x', .int .i64 y']] w (Gives (.tuple #[.agg #[.int .i64 k, .int .i64 n, .string s, .int .i64 x, .int .i64 y], .int .i64 0]) w) := by
 have hk1 : (k == 1) = true ∨ (k == 1) = false := by cases (k == 1) <;> simp
 obtain ⟨D1, D2, D3, hb0⟩ := two_boxes w 33 [.int .i64 k, .int .i64 n, .string s, .int .i64 x, .int .i64 y] [.int .i64 k, .int .i64 n', .string s', .int .i64 x', .int .i64 y'] [.int .i64 0, .int .i64 0, .string ⟨#[]⟩, .int .i64 0, .int .i64 0]
 have H1 := Lib.hid D1; have H2 := Lib.hid D2; have H3 := Lib.hid D3; have HB := Lib.hid hb0; clear D1 D2 D3 hb0
 go_enter Try.func29, Try.ntmps29
 go_wp2_with (fail)
 refine (HF.out _).mono ?_
 rintro e w29 ⟨rfl, hb⟩
 replace H1 := Lib.hid (H1.out.next hb); replace H2 := Lib.hid (H2.out.next hb); replace H3 := Lib.hid (H3.out.next hb); replace HB := Lib.hid (Below.next HB.out hb); clear hb
 obtain ⟨c0, c1, c2, c3, c4⟩ := five H1.out
 obtain ⟨d0, d1, d2, d3, d4⟩ := five H2.out
 go_wp2_with (fail)
 clear c0 c1 c2 c3 c4 d0 d1 d2 d3 d4
 refine (HA.out _).mono ?_
 rintro e w30 ⟨rfl, hb⟩
 replace H1 := Lib.hid (H1.out.next hb); replace H2 := Lib.hid (H2.out.next hb); replace H3 := Lib.hid (H3.out.next hb); replace HB := Lib.hid (Below.next HB.out hb); clear hb
 obtain ⟨c0, c1, c2, c3, c4⟩ := five H1.out
 obtain ⟨d0, d1, d2, d3, d4⟩ := five H2.out
 go_wp2_with (fail)
 clear c0 c1 c2 c3 c4 d0 d1 d2 d3 d4
 refine (HQ.out _).mono ?_
 rintro e w31 ⟨rfl, hb⟩
 replace H1 := Lib.hid (H1.out.next hb); replace H2 := Lib.hid (H2.out.next hb); replace H3 := Lib.hid (H3.out.next hb); replace HB := Lib.hid (Below.next HB.out hb); clear hb
 rcases hk1 with hk1 | hk1
 all_goals
  obtain ⟨c0, c1, c2, c3, c4⟩ := five H1.out
  obtain ⟨d0, d1, d2, d3, d4⟩ := five H2.out
  go_wp2_with (fail)
  clear c0 c1 c2 c3 c4 d0 d1 d2 d3 d4
  refine (HO.out _).mono ?_
  rintro e w28 ⟨rfl, hb⟩
  replace H1 := Lib.hid (H1.out.next hb); replace H2 := Lib.hid (H2.out.next hb); replace H3 := Lib.hid (H3.out.next hb); replace HB := Lib.hid (Below.next HB.out hb); clear hb
  obtain ⟨c0, c1, c2, c3, c4⟩ := five H1.out
  obtain ⟨d0, d1, d2, d3, d4⟩ := five H2.out
  obtain ⟨f0, f1, f2, f3, f4⟩ := thaw H3.out
  obtain ⟨e0, e1, e2, e3, e4⟩ := five H3.out
  go_wp2_with (fail)
  clear c0 c1 c2 c3 c4 d0 d1 d2 d3 d4
  clear f0 f1 f2 f3 f4 e0 e1 e2 e3 e4
  refine fin5 (P := bodyPost _ _ _ _ _) H3.out HB.out (by omega) _ _ _ _ _ fun w9 hx hy _ => ?_
  obtain ⟨c0, c1, c2, c3, c4⟩ := five hx
  exact bodyPost_ret (v := .tuple #[.agg #[.int .i64 k, .int .i64 n, .string s, .int .i64 x, .int .i64 y], .int .i64 0]) (by simp [results, Try.results29, go_sem, c0, c1, c2, c3, c4]) rfl ⟨rfl, hy⟩
set_option maxHeartbeats 4000000 in
set_option maxRecDepth 100000 in
theorem rf_minz (c : ByteArray) (k n x y n' x' y' : Int) (s s' : ByteArray) (w : World) (HF : Hid (∀ w, Calls Try.prog 47 #[.string c] w (Gives (.bool true) w))) (HA : Hid (∀ w, Calls Try.prog 22 #[.agg #[.int .i64 k, .int .i64 n, .string s, .int .i64 x, .int .i64 y]] w (Gives (.bool true) w))) (HQ : Hid (∀ w, Calls Try.prog 22 #[.agg #[.int .i64 k, .int .i64 n', .string s', .int .i64 x', .int .i64 y']] w (Gives (.bool true) w))) (qsum : (c.toList == [115, 117, 109]) = false) (qmax : (c.toList == [109, 97, 120]) = false) (qmin : (c.toList == [109, 105, 110]) = true) (qgcd : (c.toList == [103, 99, 100]) = false) (HO : Hid (∀ w, Calls Try.prog 48 #[.agg #[.int .i64 k, .int .i64 n, .string s, .int .i64 x, .int .i64 y], .agg #[.int .i64 k, .int .i64 n', .string s', .int .i64 x', .int .i64 y']] w (Gives (.int .i64 0) w))) :
 Calls Try.prog 29 #[.string c, .agg #[.int .i64 k, .int .i64 n, .string s, .int .i64 x, .int .i64 y], .agg #[.int .i64 k, .int .i64 n', .string s', .int .i64 x', .int .i64 y']] w (Gives (.tuple #[.agg #[.int .i64 k, .int .i64 n', .string s', .int .i64 x', .int .i64 y'], .int .i64 0]) w) := by
 have hk1 : (k == 1) = true ∨ (k == 1) = false := by cases (k == 1) <;> simp
 obtain ⟨D1, D2, D3, hb0⟩ := two_boxes w 33 [.int .i64 k, .int .i64 n, .string s, .int .i64 x, .int .i64 y] [.int .i64 k, .int .i64 n', .string s', .int .i64 x', .int .i64 y'] [.int .i64 0, .int .i64 0, .string ⟨#[]⟩, .int .i64 0, .int .i64 0]
 have H1 := Lib.hid D1; have H2 := Lib.hid D2; have H3 := Lib.hid D3; have HB := Lib.hid hb0; clear D1 D2 D3 hb0
 go_enter Try.func29, Try.ntmps29
 go_wp2_with (fail)
 refine (HF.out _).mono ?_
 rintro e w33 ⟨rfl, hb⟩
 replace H1 := Lib.hid (H1.out.next hb); replace H2 := Lib.hid (H2.out.next hb); replace H3 := Lib.hid (H3.out.next hb); replace HB := Lib.hid (Below.next HB.out hb); clear hb
 obtain ⟨c0, c1, c2, c3, c4⟩ := five H1.out
 obtain ⟨d0, d1, d2, d3, d4⟩ := five H2.out
 go_wp2_with (fail)
 clear c0 c1 c2 c3 c4 d0 d1 d2 d3 d4
 refine (HA.out _).mono ?_
 rintro e w34 ⟨rfl, hb⟩
 replace H1 := Lib.hid (H1.out.next hb); replace H2 := Lib.hid (H2.out.next hb); replace H3 := Lib.hid (H3.out.next hb); replace HB := Lib.hid (Below.next HB.out hb); clear hb
 obtain ⟨c0, c1, c2, c3, c4⟩ := five H1.out
 obtain ⟨d0, d1, d2, d3, d4⟩ := five H2.out
 go_wp2_with (fail)
 clear c0 c1 c2 c3 c4 d0 d1 d2 d3 d4
 refine (HQ.out _).mono ?_
 rintro e w35 ⟨rfl, hb⟩
 replace H1 := Lib.hid (H1.out.next hb); replace H2 := Lib.hid (H2.out.next hb); replace H3 := Lib.hid (H3.out.next hb); replace HB := Lib.hid (Below.next HB.out hb); clear hb
 rcases hk1 with hk1 | hk1
 all_goals
  obtain ⟨c0, c1, c2, c3, c4⟩ := five H1.out
  obtain ⟨d0, d1, d2, d3, d4⟩ := five H2.out
  go_wp2_with (fail)
  clear c0 c1 c2 c3 c4 d0 d1 d2 d3 d4
  refine (HO.out _).mono ?_
  rintro e w32 ⟨rfl, hb⟩
  replace H1 := Lib.hid (H1.out.next hb); replace H2 := Lib.hid (H2.out.next hb); replace H3 := Lib.hid (H3.out.next hb); replace HB := Lib.hid (Below.next HB.out hb); clear hb
  obtain ⟨c0, c1, c2, c3, c4⟩ := five H1.out
  obtain ⟨d0, d1, d2, d3, d4⟩ := five H2.out
  obtain ⟨f0, f1, f2, f3, f4⟩ := thaw H3.out
  obtain ⟨e0, e1, e2, e3, e4⟩ := five H3.out
  go_wp2_with (fail)
  clear c0 c1 c2 c3 c4 d0 d1 d2 d3 d4
  clear f0 f1 f2 f3 f4 e0 e1 e2 e3 e4
  refine fin5 (P := bodyPost _ _ _ _ _) H3.out HB.out (by omega) _ _ _ _ _ fun w9 hx hy _ => ?_
  obtain ⟨c0, c1, c2, c3, c4⟩ := five hx
  exact bodyPost_ret (v := .tuple #[.agg #[.int .i64 k, .int .i64 n', .string s', .int .i64 x', .int .i64 y'], .int .i64 0]) (by simp [results, Try.results29, go_sem, c0, c1, c2, c3, c4]) rfl ⟨rfl, hy⟩
set_option maxHeartbeats 4000000 in
set_option maxRecDepth 100000 in
theorem rf_minp (c : ByteArray) (k n x y n' x' y' : Int) (s s' : ByteArray) (w : World) (HF : Hid (∀ w, Calls Try.prog 47 #[.string c] w (Gives (.bool true) w))) (HA : Hid (∀ w, Calls Try.prog 22 #[.agg #[.int .i64 k, .int .i64 n, .string s, .int .i64 x, .int .i64 y]] w (Gives (.bool true) w))) (HQ : Hid (∀ w, Calls Try.prog 22 #[.agg #[.int .i64 k, .int .i64 n', .string s', .int .i64 x', .int .i64 y']] w (Gives (.bool true) w))) (qsum : (c.toList == [115, 117, 109]) = false) (qmax : (c.toList == [109, 97, 120]) = false) (qmin : (c.toList == [109, 105, 110]) = true) (qgcd : (c.toList == [103, 99, 100]) = false) (HO : Hid (∀ w, Calls Try.prog 48 #[.agg #[.int .i64 k, .int .i64 n, .string s, .int .i64 x, .int .i64 y], .agg #[.int .i64 k, .int .i64 n', .string s', .int .i64 x', .int .i64 y']] w (Gives (.int .i64 1) w))) :
 Calls Try.prog 29 #[.string c, .agg #[.int .i64 k, .int .i64 n, .string s, .int .i64 x, .int .i64 y], .agg #[.int .i64 k, .int .i64 n', .string s', .int .i64 x', .int .i64 y']] w (Gives (.tuple #[.agg #[.int .i64 k, .int .i64 n', .string s', .int .i64 x', .int .i64 y'], .int .i64 0]) w) := by
 have hk1 : (k == 1) = true ∨ (k == 1) = false := by cases (k == 1) <;> simp
 obtain ⟨D1, D2, D3, hb0⟩ := two_boxes w 33 [.int .i64 k, .int .i64 n, .string s, .int .i64 x, .int .i64 y] [.int .i64 k, .int .i64 n', .string s', .int .i64 x', .int .i64 y'] [.int .i64 0, .int .i64 0, .string ⟨#[]⟩, .int .i64 0, .int .i64 0]
 have H1 := Lib.hid D1; have H2 := Lib.hid D2; have H3 := Lib.hid D3; have HB := Lib.hid hb0; clear D1 D2 D3 hb0
 go_enter Try.func29, Try.ntmps29
 go_wp2_with (fail)
 refine (HF.out _).mono ?_
 rintro e w37 ⟨rfl, hb⟩
 replace H1 := Lib.hid (H1.out.next hb); replace H2 := Lib.hid (H2.out.next hb); replace H3 := Lib.hid (H3.out.next hb); replace HB := Lib.hid (Below.next HB.out hb); clear hb
 obtain ⟨c0, c1, c2, c3, c4⟩ := five H1.out
 obtain ⟨d0, d1, d2, d3, d4⟩ := five H2.out
 go_wp2_with (fail)
 clear c0 c1 c2 c3 c4 d0 d1 d2 d3 d4
 refine (HA.out _).mono ?_
 rintro e w38 ⟨rfl, hb⟩
 replace H1 := Lib.hid (H1.out.next hb); replace H2 := Lib.hid (H2.out.next hb); replace H3 := Lib.hid (H3.out.next hb); replace HB := Lib.hid (Below.next HB.out hb); clear hb
 obtain ⟨c0, c1, c2, c3, c4⟩ := five H1.out
 obtain ⟨d0, d1, d2, d3, d4⟩ := five H2.out
 go_wp2_with (fail)
 clear c0 c1 c2 c3 c4 d0 d1 d2 d3 d4
 refine (HQ.out _).mono ?_
 rintro e w39 ⟨rfl, hb⟩
 replace H1 := Lib.hid (H1.out.next hb); replace H2 := Lib.hid (H2.out.next hb); replace H3 := Lib.hid (H3.out.next hb); replace HB := Lib.hid (Below.next HB.out hb); clear hb
 rcases hk1 with hk1 | hk1
 all_goals
  obtain ⟨c0, c1, c2, c3, c4⟩ := five H1.out
  obtain ⟨d0, d1, d2, d3, d4⟩ := five H2.out
  go_wp2_with (fail)
  clear c0 c1 c2 c3 c4 d0 d1 d2 d3 d4
  refine (HO.out _).mono ?_
  rintro e w36 ⟨rfl, hb⟩
  replace H1 := Lib.hid (H1.out.next hb); replace H2 := Lib.hid (H2.out.next hb); replace H3 := Lib.hid (H3.out.next hb); replace HB := Lib.hid (Below.next HB.out hb); clear hb
  obtain ⟨c0, c1, c2, c3, c4⟩ := five H1.out
  obtain ⟨d0, d1, d2, d3, d4⟩ := five H2.out
  obtain ⟨f0, f1, f2, f3, f4⟩ := thaw H3.out
  obtain ⟨e0, e1, e2, e3, e4⟩ := five H3.out
  go_wp2_with (fail)
  clear c0 c1 c2 c3 c4 d0 d1 d2 d3 d4
  clear f0 f1 f2 f3 f4 e0 e1 e2 e3 e4
  refine fin5 (P := bodyPost _ _ _ _ _) H3.out HB.out (by omega) _ _ _ _ _ fun w9 hx hy _ => ?_
  obtain ⟨c0, c1, c2, c3, c4⟩ := five hx
  exact bodyPost_ret (v := .tuple #[.agg #[.int .i64 k, .int .i64 n', .string s', .int .i64 x', .int .i64 y'], .int .i64 0]) (by simp [results, Try.results29, go_sem, c0, c1, c2, c3, c4]) rfl ⟨rfl, hy⟩
end Go.Proofs.Ytamhfjlffacakaa.Jo
