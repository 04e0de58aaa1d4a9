/-
  A text of this claim: JoRefA1.
-/
import Derived.Test.YtamhfjlffacakaaQ3
import Derived.Test.YtamhfjlffacakaaQVaRef
import Derived.Test.YtamhfjlffacakaaQ1
import Derived.Deep.Cut
namespace Go.Proofs.Ytamhfjlffacakaa.Jo
open Go.ChangeShapes Go.WideShapes Go.ChangeAt Go.RowKit Ov Ga Va
set_option maxHeartbeats 4000000 in
set_option maxRecDepth 100000 in
theorem rf_e1 (c : ByteArray) (k k' n x y n' x' y' : Int) (s s' : ByteArray) (w : World) (HF : Hid (∀ w, Calls Try.prog 47 #[.string c] w (Gives (.bool false) w))) :
 Calls Try.prog 29 #[.string c, .agg #[.int .i64 k, .int .i64 n, .string s, .int .i64 x, .int .i64 y], .agg #[.int .i64 k', .int .i64 n', .string s', .int .i64 x', .int .i64 y']] w (Gives (.tuple #[.agg #[.int .i64 0, .int .i64 0, .string ⟨#[]⟩, .int .i64 0, .int .i64 0], .int .i64 1]) w) := by
 obtain ⟨D1, D2, D3, hb0⟩ := two_boxes w 33 [.int .i64 k, .int .i64 n, .string s, .int .i64 x, .int .i64 y] [.int .i64 k', .int .i64 n', .string s', .int .i64 x', .int .i64 y'] [.int .i64 0, .int .i64 0, .string ⟨#[]⟩, .int .i64 0, .int .i64 0]
 have H1 := Lib.hid D1; have H2 := Lib.hid D2; have H3 := Lib.hid D3; have HB := Lib.hid hb0; clear D1 D2 D3 hb0
 go_enter Try.func29, Try.ntmps29
 go_wp2_with (fail)
 refine (HF.out _).mono ?_
 rintro e w1 ⟨rfl, hb⟩
 replace H1 := Lib.hid (H1.out.next hb); replace H2 := Lib.hid (H2.out.next hb); replace H3 := Lib.hid (H3.out.next hb); replace HB := Lib.hid (Below.next HB.out hb); clear hb
 obtain ⟨c0, c1, c2, c3, c4⟩ := five H1.out
 obtain ⟨d0, d1, d2, d3, d4⟩ := five H2.out
 obtain ⟨f0, f1, f2, f3, f4⟩ := thaw H3.out
 obtain ⟨e0, e1, e2, e3, e4⟩ := five H3.out
 go_wp2_with (fail)
 clear c0 c1 c2 c3 c4 d0 d1 d2 d3 d4
 clear f0 f1 f2 f3 f4 e0 e1 e2 e3 e4
 refine fin5 (P := bodyPost _ _ _ _ _) H3.out HB.out (by omega) _ _ _ _ _ fun w9 hx hy _ => ?_
 obtain ⟨c0, c1, c2, c3, c4⟩ := five hx
 exact bodyPost_ret (v := .tuple #[.agg #[.int .i64 0, .int .i64 0, .string ⟨#[]⟩, .int .i64 0, .int .i64 0], .int .i64 1]) (by simp [results, Try.results29, go_sem, c0, c1, c2, c3, c4]) rfl ⟨rfl, hy⟩
set_option maxHeartbeats 4000000 in
set_option maxRecDepth 100000 in
theorem rf_e2 (c : ByteArray) (k k' n x y n' x' y' : Int) (s s' : ByteArray) (w : World) (HF : Hid (∀ w, Calls Try.prog 47 #[.string c] w (Gives (.bool true) w))) (HA : Hid (∀ w, Calls Try.prog 22 #[.agg #[.int .i64 k, .int .i64 n, .string s, .int .i64 x, .int .i64 y]] w (Gives (.bool false) w))) :
 Calls Try.prog 29 #[.string c, .agg #[.int .i64 k, .int .i64 n, .string s, .int .i64 x, .int .i64 y], .agg #[.int .i64 k', .int .i64 n', .string s', .int .i64 x', .int .i64 y']] w (Gives (.tuple #[.agg #[.int .i64 0, .int .i64 0, .string ⟨#[]⟩, .int .i64 0, .int .i64 0], .int .i64 1]) w) := by
 obtain ⟨D1, D2, D3, hb0⟩ := two_boxes w 33 [.int .i64 k, .int .i64 n, .string s, .int .i64 x, .int .i64 y] [.int .i64 k', .int .i64 n', .string s', .int .i64 x', .int .i64 y'] [.int .i64 0, .int .i64 0, .string ⟨#[]⟩, .int .i64 0, .int .i64 0]
 have H1 := Lib.hid D1; have H2 := Lib.hid D2; have H3 := Lib.hid D3; have HB := Lib.hid hb0; clear D1 D2 D3 hb0
 go_enter Try.func29, Try.ntmps29
 go_wp2_with (fail)
 refine (HF.out _).mono ?_
 rintro e w2 ⟨rfl, hb⟩
 replace H1 := Lib.hid (H1.out.next hb); replace H2 := Lib.hid (H2.out.next hb); replace H3 := Lib.hid (H3.out.next hb); replace HB := Lib.hid (Below.next HB.out hb); clear hb
 obtain ⟨c0, c1, c2, c3, c4⟩ := five H1.out
 obtain ⟨d0, d1, d2, d3, d4⟩ := five H2.out
 go_wp2_with (fail)
 clear c0 c1 c2 c3 c4 d0 d1 d2 d3 d4
 refine (HA.out _).mono ?_
 rintro e w3 ⟨rfl, hb⟩
 replace H1 := Lib.hid (H1.out.next hb); replace H2 := Lib.hid (H2.out.next hb); replace H3 := Lib.hid (H3.out.next hb); replace HB := Lib.hid (Below.next HB.out hb); clear hb
 obtain ⟨c0, c1, c2, c3, c4⟩ := five H1.out
 obtain ⟨d0, d1, d2, d3, d4⟩ := five H2.out
 obtain ⟨f0, f1, f2, f3, f4⟩ := thaw H3.out
 obtain ⟨e0, e1, e2, e3, e4⟩ := five H3.out
 go_wp2_with (fail)
 clear c0 c1 c2 c3 c4 d0 d1 d2 d3 d4
 clear f0 f1 f2 f3 f4 e0 e1 e2 e3 e4
 refine fin5 (P := bodyPost _ _ _ _ _) H3.out HB.out (by omega) _ _ _ _ _ fun w9 hx hy _ => ?_
 obtain ⟨c0, c1, c2, c3, c4⟩ := five hx
 exact bodyPost_ret (v := .tuple #[.agg #[.int .i64 0, .int .i64 0, .string ⟨#[]⟩, .int .i64 0, .int .i64 0], .int .i64 1]) (by simp [results, Try.results29, go_sem, c0, c1, c2, c3, c4]) rfl ⟨rfl, hy⟩
set_option maxHeartbeats 4000000 in
set_option maxRecDepth 100000 in
theorem rf_e3 (c : ByteArray) (k k' n x y n' x' y' : Int) (s s' : ByteArray) (w : World) (HF : Hid (∀ w, Calls Try.prog 47 #[.string c] w (Gives (.bool true) w))) (HA : Hid (∀ w, Calls Try.prog 22 #[.agg #[.int .i64 k, .int .i64 n, .string s, .int .i64 x, .int .i64 y]] w (Gives (.bool true) w))) (HQ : Hid (∀ w, Calls Try.prog 22 #[.agg #[.int .i64 k', .int .i64 n', .string s', .int .i64 x', .int .i64 y']] w (Gives (.bool false) w))) :
 Calls Try.prog 29 #[.string c, .agg #[.int .i64 k, .int .i64 n, .string s, .int .i64 x, .int .i64 y], .agg #[.int .i64 k', .int .i64 n', .string s', .int .i64 x', .int .i64 y']] w (Gives (.tuple #[.agg #[.int .i64 0, .int .i64 0, .string ⟨#[]⟩, .int .i64 0, .int .i64 0], .int .i64 1]) w) := by
 obtain ⟨D1, D2, D3, hb0⟩ := two_boxes w 33 [.int .i64 k, .int .i64 n, .string s, .int .i64 x, .int .i64 y] [.int .i64 k', .int .i64 n', .string s', .int .i64 x', .int .i64 y'] [.int .i64 0, .int .i64 0, .string ⟨#[]⟩, .int .i64 0, .int .i64 0]
 have H1 := Lib.hid D1; have H2 := Lib.hid D2; have H3 := Lib.hid D3; have HB := Lib.hid hb0; clear D1 D2 D3 hb0
 go_enter Try.func29, Try.ntmps29
 go_wp2_with (fail)
 refine (HF.out _).mono ?_
 rintro e w4 ⟨rfl, hb⟩
 replace H1 := Lib.hid (H1.out.next hb); replace H2 := Lib.hid (H2.out.next hb); replace H3 := Lib.hid (H3.out.next hb); replace HB := Lib.hid (Below.next HB.out hb); clear hb
 obtain ⟨c0, c1, c2, c3, c4⟩ := five H1.out
 obtain ⟨d0, d1, d2, d3, d4⟩ := five H2.out
 go_wp2_with (fail)
 clear c0 c1 c2 c3 c4 d0 d1 d2 d3 d4
 refine (HA.out _).mono ?_
 rintro e w5 ⟨rfl, hb⟩
 replace H1 := Lib.hid (H1.out.next hb); replace H2 := Lib.hid (H2.out.next hb); replace H3 := Lib.hid (H3.out.next hb); replace HB := Lib.hid (Below.next HB.out hb); clear hb
 obtain ⟨c0, c1, c2, c3, c4⟩ := five H1.out
 obtain ⟨d0, d1, d2, d3, d4⟩ := five H2.out
 go_wp2_with (fail)
 clear c0 c1 c2 c3 c4 d0 d1 d2 d3 d4
 refine (HQ.out _).mono ?_
 rintro e w6 ⟨rfl, hb⟩
 replace H1 := Lib.hid (H1.out.next hb); replace H2 := Lib.hid (H2.out.next hb); replace H3 := Lib.hid (H3.out.next hb); replace HB := Lib.hid (Below.next HB.out hb); clear hb
 obtain ⟨c0, c1, c2, c3, c4⟩ := five H1.out
 obtain ⟨d0, d1, d2, d3, d4⟩ := five H2.out
 obtain ⟨f0, f1, f2, f3, f4⟩ := thaw H3.out
 obtain ⟨e0, e1, e2, e3, e4⟩ := five H3.out
 go_wp2_with (fail)
 clear c0 c1 c2 c3 c4 d0 d1 d2 d3 d4
 clear f0 f1 f2 f3 f4 e0 e1 e2 e3 e4
 refine fin5 (P := bodyPost _ _ _ _ _) H3.out HB.out (by omega) _ _ _ _ _ fun w9 hx hy _ => ?_
 obtain ⟨c0, c1, c2, c3, c4⟩ := five hx
 exact bodyPost_ret (v := .tuple #[.agg #[.int .i64 0, .int .i64 0, .string ⟨#[]⟩, .int .i64 0, .int .i64 0], .int .i64 1]) (by simp [results, Try.results29, go_sem, c0, c1, c2, c3, c4]) rfl ⟨rfl, hy⟩
set_option maxHeartbeats 4000000 in
set_option maxRecDepth 100000 in
theorem rf_k (c : ByteArray) (k k' n x y n' x' y' : Int) (s s' : ByteArray) (w : World) (HF : Hid (∀ w, Calls Try.prog 47 #[.string c] w (Gives (.bool true) w))) (HA : Hid (∀ w, Calls Try.prog 22 #[.agg #[.int .i64 k, .int .i64 n, .string s, .int .i64 x, .int .i64 y]] w (Gives (.bool true) w))) (HQ : Hid (∀ w, Calls Try.prog 22 #[.agg #[.int .i64 k', .int .i64 n', .string s', .int .i64 x', .int .i64 y']] w (Gives (.bool true) w))) (h : k ≠ k') :
 Calls Try.prog 29 #[.string c, .agg #[.int .i64 k, .int .i64 n, .string s, .int .i64 x, .int .i64 y], .agg #[.int .i64 k', .int .i64 n', .string s', .int .i64 x', .int .i64 y']] w (Gives (.tuple #[.agg #[.int .i64 0, .int .i64 0, .string ⟨#[]⟩, .int .i64 0, .int .i64 0], .int .i64 13]) w) := by
 obtain ⟨D1, D2, D3, hb0⟩ := two_boxes w 33 [.int .i64 k, .int .i64 n, .string s, .int .i64 x, .int .i64 y] [.int .i64 k', .int .i64 n', .string s', .int .i64 x', .int .i64 y'] [.int .i64 0, .int .i64 0, .string ⟨#[]⟩, .int .i64 0, .int .i64 0]
 have H1 := Lib.hid D1; have H2 := Lib.hid D2; have H3 := Lib.hid D3; have HB := Lib.hid hb0; clear D1 D2 D3 hb0
 go_enter Try.func29, Try.ntmps29
 go_wp2_with (fail)
 refine (HF.out _).mono ?_
 rintro e w7 ⟨rfl, hb⟩
 replace H1 := Lib.hid (H1.out.next hb); replace H2 := Lib.hid (H2.out.next hb); replace H3 := Lib.hid (H3.out.next hb); replace HB := Lib.hid (Below.next HB.out hb); clear hb
 obtain ⟨c0, c1, c2, c3, c4⟩ := five H1.out
 obtain ⟨d0, d1, d2, d3, d4⟩ := five H2.out
 go_wp2_with (fail)
 clear c0 c1 c2 c3 c4 d0 d1 d2 d3 d4
 refine (HA.out _).mono ?_
 rintro e w8 ⟨rfl, hb⟩
 replace H1 := Lib.hid (H1.out.next hb); replace H2 := Lib.hid (H2.out.next hb); replace H3 := Lib.hid (H3.out.next hb); replace HB := Lib.hid (Below.next HB.out hb); clear hb
 obtain ⟨c0, c1, c2, c3, c4⟩ := five H1.out
 obtain ⟨d0, d1, d2, d3, d4⟩ := five H2.out
 go_wp2_with (fail)
 clear c0 c1 c2 c3 c4 d0 d1 d2 d3 d4
 refine (HQ.out _).mono ?_
 rintro e w9 ⟨rfl, hb⟩
 replace H1 := Lib.hid (H1.out.next hb); replace H2 := Lib.hid (H2.out.next hb); replace H3 := Lib.hid (H3.out.next hb); replace HB := Lib.hid (Below.next HB.out hb); clear hb
 obtain ⟨c0, c1, c2, c3, c4⟩ := five H1.out
 obtain ⟨d0, d1, d2, d3, d4⟩ := five H2.out
 obtain ⟨f0, f1, f2, f3, f4⟩ := thaw H3.out
 obtain ⟨e0, e1, e2, e3, e4⟩ := five H3.out
 go_wp2_with (fail)
 clear c0 c1 c2 c3 c4 d0 d1 d2 d3 d4
 clear f0 f1 f2 f3 f4 e0 e1 e2 e3 e4
 refine fin5 (P := bodyPost _ _ _ _ _) H3.out HB.out (by omega) _ _ _ _ _ fun w9 hx hy _ => ?_
 obtain ⟨c0, c1, c2, c3, c4⟩ := five hx
 exact bodyPost_ret (v := .tuple #[.agg #[.int .i64 0, .int .i64 0, .string ⟨#[]⟩, .int .i64 0, .int .i64 0], .int .i64 13]) (by simp [results, Try.results29, go_sem, c0, c1, c2, c3, c4]) rfl ⟨rfl, hy⟩
set_option maxHeartbeats 4000000 in
set_option maxRecDepth 100000 in
theorem rf_tsum (c : ByteArray) (n x y n' x' y' : Int) (s s' : ByteArray) (w : World) (HF : Hid (∀ w, Calls Try.prog 47 #[.string c] w (Gives (.bool true) w))) (HA : Hid (∀ w, Calls Try.prog 22 #[.agg #[.int .i64 1, .int .i64 n, .string s, .int .i64 x, .int .i64 y]] w (Gives (.bool true) w))) (HQ : Hid (∀ w, Calls Try.prog 22 #[.agg #[.int .i64 1, .int .i64 n', .string s', .int .i64 x', .int .i64 y']] w (Gives (.bool true) w))) (qsum : (c.toList == [115, 117, 109]) = true) :
 Calls Try.prog 29 #[.string c, .agg #[.int .i64 1, .int .i64 n, .string s, .int .i64 x, .int .i64 y], .agg #[.int .i64 1, .int .i64 n', .string s', .int .i64 x', .int .i64 y']] w (Gives (.tuple #[.agg #[.int .i64 0, .int .i64 0, .string ⟨#[]⟩, .int .i64 0, .int .i64 0], .int .i64 13]) w) := by
 obtain ⟨D1, D2, D3, hb0⟩ := two_boxes w 33 [.int .i64 1, .int .i64 n, .string s, .int .i64 x, .int .i64 y] [.int .i64 1, .int .i64 n', .string s', .int .i64 x', .int .i64 y'] [.int .i64 0, .int .i64 0, .string ⟨#[]⟩, .int .i64 0, .int .i64 0]
 have H1 := Lib.hid D1; have H2 := Lib.hid D2; have H3 := Lib.hid D3; have HB := Lib.hid hb0; clear D1 D2 D3 hb0
 go_enter Try.func29, Try.ntmps29
 go_wp2_with (fail)
 refine (HF.out _).mono ?_
 rintro e w10 ⟨rfl, hb⟩
 replace H1 := Lib.hid (H1.out.next hb); replace H2 := Lib.hid (H2.out.next hb); replace H3 := Lib.hid (H3.out.next hb); replace HB := Lib.hid (Below.next HB.out hb); clear hb
 obtain ⟨c0, c1, c2, c3, c4⟩ := five H1.out
 obtain ⟨d0, d1, d2, d3, d4⟩ := five H2.out
 go_wp2_with (fail)
 clear c0 c1 c2 c3 c4 d0 d1 d2 d3 d4
 refine (HA.out _).mono ?_
 rintro e w11 ⟨rfl, hb⟩
 replace H1 := Lib.hid (H1.out.next hb); replace H2 := Lib.hid (H2.out.next hb); replace H3 := Lib.hid (H3.out.next hb); replace HB := Lib.hid (Below.next HB.out hb); clear hb
 obtain ⟨c0, c1, c2, c3, c4⟩ := five H1.out
 obtain ⟨d0, d1, d2, d3, d4⟩ := five H2.out
 go_wp2_with (fail)
 clear c0 c1 c2 c3 c4 d0 d1 d2 d3 d4
 refine (HQ.out _).mono ?_
 rintro e w12 ⟨rfl, hb⟩
 replace H1 := Lib.hid (H1.out.next hb); replace H2 := Lib.hid (H2.out.next hb); replace H3 := Lib.hid (H3.out.next hb); replace HB := Lib.hid (Below.next HB.out hb); clear hb
 obtain ⟨c0, c1, c2, c3, c4⟩ := five H1.out
 obtain ⟨d0, d1, d2, d3, d4⟩ := five H2.out
 obtain ⟨f0, f1, f2, f3, f4⟩ := thaw H3.out
 obtain ⟨e0, e1, e2, e3, e4⟩ := five H3.out
 go_wp2_with (fail)
 clear c0 c1 c2 c3 c4 d0 d1 d2 d3 d4
 clear f0 f1 f2 f3 f4 e0 e1 e2 e3 e4
 refine fin5 (P := bodyPost _ _ _ _ _) H3.out HB.out (by omega) _ _ _ _ _ fun w9 hx hy _ => ?_
 obtain ⟨c0, c1, c2, c3, c4⟩ := five hx
 exact bodyPost_ret (v := .tuple #[.agg #[.int .i64 0, .int .i64 0, .string ⟨#[]⟩, .int .i64 0, .int .i64 0], .int .i64 13]) (by simp [results, Try.results29, go_sem, c0, c1, c2, c3, c4]) rfl ⟨rfl, hy⟩
set_option maxHeartbeats 4000000 in
set_option maxRecDepth 100000 in
theorem rf_tgcd (c : ByteArray) (n x y n' x' y' : Int) (s s' : ByteArray) (w : World) (HF : Hid (∀ w, Calls Try.prog 47 #[.string c] w (Gives (.bool true) w))) (HA : Hid (∀ w, Calls Try.prog 22 #[.agg #[.int .i64 1, .int .i64 n, .string s, .int .i64 x, .int .i64 y]] w (Gives (.bool true) w))) (HQ : Hid (∀ w, Calls Try.prog 22 #[.agg #[.int .i64 1, .int .i64 n', .string s', .int .i64 x', .int .i64 y']] w (Gives (.bool true) w))) (qsum : (c.toList == [115, 117, 109]) = false) (qgcd : (c.toList == [103, 99, 100]) = true) :
 Calls Try.prog 29 #[.string c, .agg #[.int .i64 1, .int .i64 n, .string s, .int .i64 x, .int .i64 y], .agg #[.int .i64 1, .int .i64 n', .string s', .int .i64 x', .int .i64 y']] w (Gives (.tuple #[.agg #[.int .i64 0, .int .i64 0, .string ⟨#[]⟩, .int .i64 0, .int .i64 0], .int .i64 13]) w) := by
 obtain ⟨D1, D2, D3, hb0⟩ := two_boxes w 33 [.int .i64 1, .int .i64 n, .string s, .int .i64 x, .int .i64 y] [.int .i64 1, .int .i64 n', .string s', .int .i64 x', .int .i64 y'] [.int .i64 0, .int .i64 0, .string ⟨#[]⟩, .int .i64 0, .int .i64 0]
 have H1 := Lib.hid D1; have H2 := Lib.hid D2; have H3 := Lib.hid D3; have HB := Lib.hid hb0; clear D1 D2 D3 hb0
 go_enter Try.func29, Try.ntmps29
 go_wp2_with (fail)
 refine (HF.out _).mono ?_
 rintro e w13 ⟨rfl, hb⟩
 replace H1 := Lib.hid (H1.out.next hb); replace H2 := Lib.hid (H2.out.next hb); replace H3 := Lib.hid (H3.out.next hb); replace HB := Lib.hid (Below.next HB.out hb); clear hb
 obtain ⟨c0, c1, c2, c3, c4⟩ := five H1.out
 obtain ⟨d0, d1, d2, d3, d4⟩ := five H2.out
 go_wp2_with (fail)
 clear c0 c1 c2 c3 c4 d0 d1 d2 d3 d4
 refine (HA.out _).mono ?_
 rintro e w14 ⟨rfl, hb⟩
 replace H1 := Lib.hid (H1.out.next hb); replace H2 := Lib.hid (H2.out.next hb); replace H3 := Lib.hid (H3.out.next hb); replace HB := Lib.hid (Below.next HB.out hb); clear hb
 obtain ⟨c0, c1, c2, c3, c4⟩ := five H1.out
 obtain ⟨d0, d1, d2, d3, d4⟩ := five H2.out
 go_wp2_with (fail)
 clear c0 c1 c2 c3 c4 d0 d1 d2 d3 d4
 refine (HQ.out _).mono ?_
 rintro e w15 ⟨rfl, hb⟩
 replace H1 := Lib.hid (H1.out.next hb); replace H2 := Lib.hid (H2.out.next hb); replace H3 := Lib.hid (H3.out.next hb); replace HB := Lib.hid (Below.next HB.out hb); clear hb
 obtain ⟨c0, c1, c2, c3, c4⟩ := five H1.out
 obtain ⟨d0, d1, d2, d3, d4⟩ := five H2.out
 obtain ⟨f0, f1, f2, f3, f4⟩ := thaw H3.out
 obtain ⟨e0, e1, e2, e3, e4⟩ := five H3.out
 go_wp2_with (fail)
 clear c0 c1 c2 c3 c4 d0 d1 d2 d3 d4
 clear f0 f1 f2 f3 f4 e0 e1 e2 e3 e4
 refine fin5 (P := bodyPost _ _ _ _ _) H3.out HB.out (by omega) _ _ _ _ _ fun w9 hx hy _ => ?_
 obtain ⟨c0, c1, c2, c3, c4⟩ := five hx
 exact bodyPost_ret (v := .tuple #[.agg #[.int .i64 0, .int .i64 0, .string ⟨#[]⟩, .int .i64 0, .int .i64 0], .int .i64 13]) (by simp [results, Try.results29, go_sem, c0, c1, c2, c3, c4]) rfl ⟨rfl, hy⟩
end Go.Proofs.Ytamhfjlffacakaa.Jo
