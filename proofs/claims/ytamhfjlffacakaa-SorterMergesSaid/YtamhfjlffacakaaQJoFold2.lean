/-
  A text of this claim: JoFold2.
-/
import Derived.Test.YtamhfjlffacakaaQ2
namespace Go.Proofs.Ytamhfjlffacakaa.Jo
open Go.ChangeShapes Go.WideShapes Go.ChangeAt Go.RowKit Ov Ga Va
set_option maxHeartbeats 1000000 in
theorem fold_e1 (c : ByteArray) (k k' n x y n' x' y' : Int) (s s' : ByteArray) (w : World) (HF : Hid (∀ w, Calls Try.prog 63 #[.string c] w (Gives (.bool false) w))) :
 Calls Try.prog 46 #[.string c, .agg #[.int .i64 k, .int .i64 n, .string s, .int .i64 x, .int .i64 y], .agg #[.int .i64 k', .int .i64 n', .string s', .int .i64 x', .int .i64 y']] w (Gives (.tuple #[.agg #[.int .i64 0, .int .i64 0, .string ⟨#[]⟩, .int .i64 0, .int .i64 0], .int .i64 1]) w) := by
 obtain ⟨D1, D2, D3, hb0⟩ := two_boxes w 33 [.int .i64 k, .int .i64 n, .string s, .int .i64 x, .int .i64 y] [.int .i64 k', .int .i64 n', .string s', .int .i64 x', .int .i64 y'] [.int .i64 0, .int .i64 0, .string ⟨#[]⟩, .int .i64 0, .int .i64 0]
 have H1 := Lib.hid D1; have H2 := Lib.hid D2; have H3 := Lib.hid D3; have HB := Lib.hid hb0; clear D1 D2 D3 hb0
 go_enter Try.func46, Try.ntmps46
 go_wp2_with (fail)
 refine (HF.out _).mono ?_
 rintro e w1 ⟨rfl, hb⟩
 replace H1 := Lib.hid (H1.out.next hb); replace H2 := Lib.hid (H2.out.next hb); replace H3 := Lib.hid (H3.out.next hb); replace HB := Lib.hid (Below.next HB.out hb); clear hb
 obtain ⟨f0, f1, f2, f3, f4⟩ := thaw H3.out
 obtain ⟨d0, d1, d2, d3, d4⟩ := five H3.out
 go_wp2_with (fail)
 clear f0 f1 f2 f3 f4 d0 d1 d2 d3 d4
 refine fin5 (P := bodyPost _ _ _ _ _) H3.out HB.out (by omega) _ _ _ _ _ fun w4 hx hy _ => ?_
 obtain ⟨c0, c1, c2, c3, c4⟩ := five hx
 exact bodyPost_ret (v := .tuple #[.agg #[.int .i64 0, .int .i64 0, .string ⟨#[]⟩, .int .i64 0, .int .i64 0], .int .i64 1]) (by simp [results, Try.results46, go_sem, c0, c1, c2, c3, c4]) rfl ⟨rfl, hy⟩
set_option maxHeartbeats 1000000 in
theorem fold_e2 (c : ByteArray) (k k' n x y n' x' y' : Int) (s s' : ByteArray) (w : World) (HF : Hid (∀ w, Calls Try.prog 63 #[.string c] w (Gives (.bool true) w))) (HA : Hid (∀ w, Calls Try.prog 53 #[.agg #[.int .i64 k, .int .i64 n, .string s, .int .i64 x, .int .i64 y]] w (Gives (.bool false) w))) :
 Calls Try.prog 46 #[.string c, .agg #[.int .i64 k, .int .i64 n, .string s, .int .i64 x, .int .i64 y], .agg #[.int .i64 k', .int .i64 n', .string s', .int .i64 x', .int .i64 y']] w (Gives (.tuple #[.agg #[.int .i64 0, .int .i64 0, .string ⟨#[]⟩, .int .i64 0, .int .i64 0], .int .i64 1]) w) := by
 obtain ⟨D1, D2, D3, hb0⟩ := two_boxes w 33 [.int .i64 k, .int .i64 n, .string s, .int .i64 x, .int .i64 y] [.int .i64 k', .int .i64 n', .string s', .int .i64 x', .int .i64 y'] [.int .i64 0, .int .i64 0, .string ⟨#[]⟩, .int .i64 0, .int .i64 0]
 have H1 := Lib.hid D1; have H2 := Lib.hid D2; have H3 := Lib.hid D3; have HB := Lib.hid hb0; clear D1 D2 D3 hb0
 go_enter Try.func46, Try.ntmps46
 go_wp2_with (fail)
 refine (HF.out _).mono ?_
 rintro e w1 ⟨rfl, hb⟩
 replace H1 := Lib.hid (H1.out.next hb); replace H2 := Lib.hid (H2.out.next hb); replace H3 := Lib.hid (H3.out.next hb); replace HB := Lib.hid (Below.next HB.out hb); clear hb
 obtain ⟨c0, c1, c2, c3, c4⟩ := five H1.out
 go_wp2_with (fail)
 clear c0 c1 c2 c3 c4
 refine (HA.out _).mono ?_
 rintro e w2 ⟨rfl, hb⟩
 replace H1 := Lib.hid (H1.out.next hb); replace H2 := Lib.hid (H2.out.next hb); replace H3 := Lib.hid (H3.out.next hb); replace HB := Lib.hid (Below.next HB.out hb); clear hb
 obtain ⟨f0, f1, f2, f3, f4⟩ := thaw H3.out
 obtain ⟨d0, d1, d2, d3, d4⟩ := five H3.out
 go_wp2_with (fail)
 clear f0 f1 f2 f3 f4 d0 d1 d2 d3 d4
 refine fin5 (P := bodyPost _ _ _ _ _) H3.out HB.out (by omega) _ _ _ _ _ fun w4 hx hy _ => ?_
 obtain ⟨c0, c1, c2, c3, c4⟩ := five hx
 exact bodyPost_ret (v := .tuple #[.agg #[.int .i64 0, .int .i64 0, .string ⟨#[]⟩, .int .i64 0, .int .i64 0], .int .i64 1]) (by simp [results, Try.results46, go_sem, c0, c1, c2, c3, c4]) rfl ⟨rfl, hy⟩
set_option maxHeartbeats 1000000 in
theorem fold_e3 (c : ByteArray) (k k' n x y n' x' y' : Int) (s s' : ByteArray) (w : World) (HF : Hid (∀ w, Calls Try.prog 63 #[.string c] w (Gives (.bool true) w))) (HA : Hid (∀ w, Calls Try.prog 53 #[.agg #[.int .i64 k, .int .i64 n, .string s, .int .i64 x, .int .i64 y]] w (Gives (.bool true) w))) (HQ : Hid (∀ w, Calls Try.prog 53 #[.agg #[.int .i64 k', .int .i64 n', .string s', .int .i64 x', .int .i64 y']] w (Gives (.bool false) w))) :
 Calls Try.prog 46 #[.string c, .agg #[.int .i64 k, .int .i64 n, .string s, .int .i64 x, .int .i64 y], .agg #[.int .i64 k', .int .i64 n', .string s', .int .i64 x', .int .i64 y']] w (Gives (.tuple #[.agg #[.int .i64 0, .int .i64 0, .string ⟨#[]⟩, .int .i64 0, .int .i64 0], .int .i64 1]) w) := by
 obtain ⟨D1, D2, D3, hb0⟩ := two_boxes w 33 [.int .i64 k, .int .i64 n, .string s, .int .i64 x, .int .i64 y] [.int .i64 k', .int .i64 n', .string s', .int .i64 x', .int .i64 y'] [.int .i64 0, .int .i64 0, .string ⟨#[]⟩, .int .i64 0, .int .i64 0]
 have H1 := Lib.hid D1; have H2 := Lib.hid D2; have H3 := Lib.hid D3; have HB := Lib.hid hb0; clear D1 D2 D3 hb0
 go_enter Try.func46, Try.ntmps46
 go_wp2_with (fail)
 refine (HF.out _).mono ?_
 rintro e w1 ⟨rfl, hb⟩
 replace H1 := Lib.hid (H1.out.next hb); replace H2 := Lib.hid (H2.out.next hb); replace H3 := Lib.hid (H3.out.next hb); replace HB := Lib.hid (Below.next HB.out hb); clear hb
 obtain ⟨c0, c1, c2, c3, c4⟩ := five H1.out
 go_wp2_with (fail)
 clear c0 c1 c2 c3 c4
 refine (HA.out _).mono ?_
 rintro e w2 ⟨rfl, hb⟩
 replace H1 := Lib.hid (H1.out.next hb); replace H2 := Lib.hid (H2.out.next hb); replace H3 := Lib.hid (H3.out.next hb); replace HB := Lib.hid (Below.next HB.out hb); clear hb
 obtain ⟨e0, e1, e2, e3, e4⟩ := five H2.out
 go_wp2_with (fail)
 clear e0 e1 e2 e3 e4
 refine (HQ.out _).mono ?_
 rintro e w3 ⟨rfl, hb⟩
 replace H1 := Lib.hid (H1.out.next hb); replace H2 := Lib.hid (H2.out.next hb); replace H3 := Lib.hid (H3.out.next hb); replace HB := Lib.hid (Below.next HB.out hb); clear hb
 obtain ⟨f0, f1, f2, f3, f4⟩ := thaw H3.out
 obtain ⟨d0, d1, d2, d3, d4⟩ := five H3.out
 go_wp2_with (fail)
 clear f0 f1 f2 f3 f4 d0 d1 d2 d3 d4
 refine fin5 (P := bodyPost _ _ _ _ _) H3.out HB.out (by omega) _ _ _ _ _ fun w4 hx hy _ => ?_
 obtain ⟨c0, c1, c2, c3, c4⟩ := five hx
 exact bodyPost_ret (v := .tuple #[.agg #[.int .i64 0, .int .i64 0, .string ⟨#[]⟩, .int .i64 0, .int .i64 0], .int .i64 1]) (by simp [results, Try.results46, go_sem, c0, c1, c2, c3, c4]) rfl ⟨rfl, hy⟩
set_option maxHeartbeats 1000000 in
theorem fold_k (c : ByteArray) (k k' n x y n' x' y' : Int) (s s' : ByteArray) (w : World) (HF : Hid (∀ w, Calls Try.prog 63 #[.string c] w (Gives (.bool true) w))) (HA : Hid (∀ w, Calls Try.prog 53 #[.agg #[.int .i64 k, .int .i64 n, .string s, .int .i64 x, .int .i64 y]] w (Gives (.bool true) w))) (HQ : Hid (∀ w, Calls Try.prog 53 #[.agg #[.int .i64 k', .int .i64 n', .string s', .int .i64 x', .int .i64 y']] w (Gives (.bool true) w))) (hk : ¬ k = k') :
 Calls Try.prog 46 #[.string c, .agg #[.int .i64 k, .int .i64 n, .string s, .int .i64 x, .int .i64 y], .agg #[.int .i64 k', .int .i64 n', .string s', .int .i64 x', .int .i64 y']] w (Gives (.tuple #[.agg #[.int .i64 0, .int .i64 0, .string ⟨#[]⟩, .int .i64 0, .int .i64 0], .int .i64 13]) w) := by
 obtain ⟨D1, D2, D3, hb0⟩ := two_boxes w 33 [.int .i64 k, .int .i64 n, .string s, .int .i64 x, .int .i64 y] [.int .i64 k', .int .i64 n', .string s', .int .i64 x', .int .i64 y'] [.int .i64 0, .int .i64 0, .string ⟨#[]⟩, .int .i64 0, .int .i64 0]
 have H1 := Lib.hid D1; have H2 := Lib.hid D2; have H3 := Lib.hid D3; have HB := Lib.hid hb0; clear D1 D2 D3 hb0
 go_enter Try.func46, Try.ntmps46
 go_wp2_with (fail)
 refine (HF.out _).mono ?_
 rintro e w1 ⟨rfl, hb⟩
 replace H1 := Lib.hid (H1.out.next hb); replace H2 := Lib.hid (H2.out.next hb); replace H3 := Lib.hid (H3.out.next hb); replace HB := Lib.hid (Below.next HB.out hb); clear hb
 obtain ⟨c0, c1, c2, c3, c4⟩ := five H1.out
 go_wp2_with (fail)
 clear c0 c1 c2 c3 c4
 refine (HA.out _).mono ?_
 rintro e w2 ⟨rfl, hb⟩
 replace H1 := Lib.hid (H1.out.next hb); replace H2 := Lib.hid (H2.out.next hb); replace H3 := Lib.hid (H3.out.next hb); replace HB := Lib.hid (Below.next HB.out hb); clear hb
 obtain ⟨e0, e1, e2, e3, e4⟩ := five H2.out
 go_wp2_with (fail)
 clear e0 e1 e2 e3 e4
 refine (HQ.out _).mono ?_
 rintro e w3 ⟨rfl, hb⟩
 replace H1 := Lib.hid (H1.out.next hb); replace H2 := Lib.hid (H2.out.next hb); replace H3 := Lib.hid (H3.out.next hb); replace HB := Lib.hid (Below.next HB.out hb); clear hb
 obtain ⟨c0, c1, c2, c3, c4⟩ := five H1.out
 obtain ⟨e0, e1, e2, e3, e4⟩ := five H2.out
 obtain ⟨f0, f1, f2, f3, f4⟩ := thaw H3.out
 obtain ⟨d0, d1, d2, d3, d4⟩ := five H3.out
 go_wp2_with (fail)
 clear f0 f1 f2 f3 f4 d0 d1 d2 d3 d4
 refine fin5 (P := bodyPost _ _ _ _ _) H3.out HB.out (by omega) _ _ _ _ _ fun w4 hx hy _ => ?_
 obtain ⟨c0, c1, c2, c3, c4⟩ := five hx
 exact bodyPost_ret (v := .tuple #[.agg #[.int .i64 0, .int .i64 0, .string ⟨#[]⟩, .int .i64 0, .int .i64 0], .int .i64 13]) (by simp [results, Try.results46, go_sem, c0, c1, c2, c3, c4]) rfl ⟨rfl, hy⟩
set_option maxHeartbeats 1000000 in
theorem fold_c0 (c : ByteArray) (k n x y n' x' y' r0 r1 r3 r4 : Int) (s s' r2 : ByteArray) (w : World) (HF : Hid (∀ w, Calls Try.prog 63 #[.string c] w (Gives (.bool true) w))) (HA : Hid (∀ w, Calls Try.prog 53 #[.agg #[.int .i64 k, .int .i64 n, .string s, .int .i64 x, .int .i64 y]] w (Gives (.bool true) w))) (HQ : Hid (∀ w, Calls Try.prog 53 #[.agg #[.int .i64 k, .int .i64 n', .string s', .int .i64 x', .int .i64 y']] w (Gives (.bool true) w))) (hm : (c.toList == [109, 97, 120]) = true) (HX : Hid (∀ w, Calls Try.prog 64 #[.string c, .agg #[.int .i64 k, .int .i64 n, .string s, .int .i64 x, .int .i64 y], .agg #[.int .i64 k, .int .i64 n', .string s', .int .i64 x', .int .i64 y']] w (Gives (.agg #[.int .i64 r0, .int .i64 r1, .string r2, .int .i64 r3, .int .i64 r4]) w))) :
 Calls Try.prog 46 #[.string c, .agg #[.int .i64 k, .int .i64 n, .string s, .int .i64 x, .int .i64 y], .agg #[.int .i64 k, .int .i64 n', .string s', .int .i64 x', .int .i64 y']] w (Gives (.tuple #[.agg #[.int .i64 r0, .int .i64 r1, .string r2, .int .i64 r3, .int .i64 r4], .int .i64 0]) w) := by
 obtain ⟨D1, D2, D3, hb0⟩ := two_boxes w 33 [.int .i64 k, .int .i64 n, .string s, .int .i64 x, .int .i64 y] [.int .i64 k, .int .i64 n', .string s', .int .i64 x', .int .i64 y'] [.int .i64 0, .int .i64 0, .string ⟨#[]⟩, .int .i64 0, .int .i64 0]
 have H1 := Lib.hid D1; have H2 := Lib.hid D2; have H3 := Lib.hid D3; have HB := Lib.hid hb0; clear D1 D2 D3 hb0
 go_enter Try.func46, Try.ntmps46
 go_wp2_with (fail)
 refine (HF.out _).mono ?_
 rintro e w1 ⟨rfl, hb⟩
 replace H1 := Lib.hid (H1.out.next hb); replace H2 := Lib.hid (H2.out.next hb); replace H3 := Lib.hid (H3.out.next hb); replace HB := Lib.hid (Below.next HB.out hb); clear hb
 obtain ⟨c0, c1, c2, c3, c4⟩ := five H1.out
 go_wp2_with (fail)
 clear c0 c1 c2 c3 c4
 refine (HA.out _).mono ?_
 rintro e w2 ⟨rfl, hb⟩
 replace H1 := Lib.hid (H1.out.next hb); replace H2 := Lib.hid (H2.out.next hb); replace H3 := Lib.hid (H3.out.next hb); replace HB := Lib.hid (Below.next HB.out hb); clear hb
 obtain ⟨e0, e1, e2, e3, e4⟩ := five H2.out
 go_wp2_with (fail)
 clear e0 e1 e2 e3 e4
 refine (HQ.out _).mono ?_
 rintro e w3 ⟨rfl, hb⟩
 replace H1 := Lib.hid (H1.out.next hb); replace H2 := Lib.hid (H2.out.next hb); replace H3 := Lib.hid (H3.out.next hb); replace HB := Lib.hid (Below.next HB.out hb); clear hb
 obtain ⟨c0, c1, c2, c3, c4⟩ := five H1.out
 obtain ⟨e0, e1, e2, e3, e4⟩ := five H2.out
 go_wp2_with (fail)
 clear c0 c1 c2 c3 c4 e0 e1 e2 e3 e4
 refine (HX.out _).mono ?_
 rintro e w5 ⟨rfl, hb⟩
 replace H1 := Lib.hid (H1.out.next hb); replace H2 := Lib.hid (H2.out.next hb); replace H3 := Lib.hid (H3.out.next hb); replace HB := Lib.hid (Below.next HB.out hb); clear hb
 obtain ⟨f0, f1, f2, f3, f4⟩ := thaw H3.out
 obtain ⟨d0, d1, d2, d3, d4⟩ := five H3.out
 go_wp2_with (fail)
 clear f0 f1 f2 f3 f4 d0 d1 d2 d3 d4
 refine fin5 (P := bodyPost _ _ _ _ _) H3.out HB.out (by omega) _ _ _ _ _ fun w4 hx hy _ => ?_
 obtain ⟨c0, c1, c2, c3, c4⟩ := five hx
 exact bodyPost_ret (v := .tuple #[.agg #[.int .i64 r0, .int .i64 r1, .string r2, .int .i64 r3, .int .i64 r4], .int .i64 0]) (by simp [results, Try.results46, go_sem, c0, c1, c2, c3, c4]) rfl ⟨rfl, hy⟩
set_option maxHeartbeats 1000000 in
theorem fold_c1 (c : ByteArray) (k n x y n' x' y' r0 r1 r3 r4 : Int) (s s' r2 : ByteArray) (w : World) (HF : Hid (∀ w, Calls Try.prog 63 #[.string c] w (Gives (.bool true) w))) (HA : Hid (∀ w, Calls Try.prog 53 #[.agg #[.int .i64 k, .int .i64 n, .string s, .int .i64 x, .int .i64 y]] w (Gives (.bool true) w))) (HQ : Hid (∀ w, Calls Try.prog 53 #[.agg #[.int .i64 k, .int .i64 n', .string s', .int .i64 x', .int .i64 y']] w (Gives (.bool true) w))) (hm : (c.toList == [109, 97, 120]) = false) (hi : (c.toList == [109, 105, 110]) = true) (HX : Hid (∀ w, Calls Try.prog 64 #[.string c, .agg #[.int .i64 k, .int .i64 n, .string s, .int .i64 x, .int .i64 y], .agg #[.int .i64 k, .int .i64 n', .string s', .int .i64 x', .int .i64 y']] w (Gives (.agg #[.int .i64 r0, .int .i64 r1, .string r2, .int .i64 r3, .int .i64 r4]) w))) :
 Calls Try.prog 46 #[.string c, .agg #[.int .i64 k, .int .i64 n, .string s, .int .i64 x, .int .i64 y], .agg #[.int .i64 k, .int .i64 n', .string s', .int .i64 x', .int .i64 y']] w (Gives (.tuple #[.agg #[.int .i64 r0, .int .i64 r1, .string r2, .int .i64 r3, .int .i64 r4], .int .i64 0]) w) := by
 obtain ⟨D1, D2, D3, hb0⟩ := two_boxes w 33 [.int .i64 k, .int .i64 n, .string s, .int .i64 x, .int .i64 y] [.int .i64 k, .int .i64 n', .string s', .int .i64 x', .int .i64 y'] [.int .i64 0, .int .i64 0, .string ⟨#[]⟩, .int .i64 0, .int .i64 0]
 have H1 := Lib.hid D1; have H2 := Lib.hid D2; have H3 := Lib.hid D3; have HB := Lib.hid hb0; clear D1 D2 D3 hb0
 go_enter Try.func46, Try.ntmps46
 go_wp2_with (fail)
 refine (HF.out _).mono ?_
 rintro e w1 ⟨rfl, hb⟩
 replace H1 := Lib.hid (H1.out.next hb); replace H2 := Lib.hid (H2.out.next hb); replace H3 := Lib.hid (H3.out.next hb); replace HB := Lib.hid (Below.next HB.out hb); clear hb
 obtain ⟨c0, c1, c2, c3, c4⟩ := five H1.out
 go_wp2_with (fail)
 clear c0 c1 c2 c3 c4
 refine (HA.out _).mono ?_
 rintro e w2 ⟨rfl, hb⟩
 replace H1 := Lib.hid (H1.out.next hb); replace H2 := Lib.hid (H2.out.next hb); replace H3 := Lib.hid (H3.out.next hb); replace HB := Lib.hid (Below.next HB.out hb); clear hb
 obtain ⟨e0, e1, e2, e3, e4⟩ := five H2.out
 go_wp2_with (fail)
 clear e0 e1 e2 e3 e4
 refine (HQ.out _).mono ?_
 rintro e w3 ⟨rfl, hb⟩
 replace H1 := Lib.hid (H1.out.next hb); replace H2 := Lib.hid (H2.out.next hb); replace H3 := Lib.hid (H3.out.next hb); replace HB := Lib.hid (Below.next HB.out hb); clear hb
 obtain ⟨c0, c1, c2, c3, c4⟩ := five H1.out
 obtain ⟨e0, e1, e2, e3, e4⟩ := five H2.out
 go_wp2_with (fail)
 clear c0 c1 c2 c3 c4 e0 e1 e2 e3 e4
 refine (HX.out _).mono ?_
 rintro e w5 ⟨rfl, hb⟩
 replace H1 := Lib.hid (H1.out.next hb); replace H2 := Lib.hid (H2.out.next hb); replace H3 := Lib.hid (H3.out.next hb); replace HB := Lib.hid (Below.next HB.out hb); clear hb
 obtain ⟨f0, f1, f2, f3, f4⟩ := thaw H3.out
 obtain ⟨d0, d1, d2, d3, d4⟩ := five H3.out
 go_wp2_with (fail)
 clear f0 f1 f2 f3 f4 d0 d1 d2 d3 d4
 refine fin5 (P := bodyPost _ _ _ _ _) H3.out HB.out (by omega) _ _ _ _ _ fun w4 hx hy _ => ?_
 obtain ⟨c0, c1, c2, c3, c4⟩ := five hx
 exact bodyPost_ret (v := .tuple #[.agg #[.int .i64 r0, .int .i64 r1, .string r2, .int .i64 r3, .int .i64 r4], .int .i64 0]) (by simp [results, Try.results46, go_sem, c0, c1, c2, c3, c4]) rfl ⟨rfl, hy⟩
set_option maxHeartbeats 1000000 in
theorem fold_n (c : ByteArray) (n x y n' x' y' r1 : Int) (s s' : ByteArray) (w : World) (HF : Hid (∀ w, Calls Try.prog 63 #[.string c] w (Gives (.bool true) w))) (HA : Hid (∀ w, Calls Try.prog 53 #[.agg #[.int .i64 0, .int .i64 n, .string s, .int .i64 x, .int .i64 y]] w (Gives (.bool true) w))) (HQ : Hid (∀ w, Calls Try.prog 53 #[.agg #[.int .i64 0, .int .i64 n', .string s', .int .i64 x', .int .i64 y']] w (Gives (.bool true) w))) (hm : (c.toList == [109, 97, 120]) = false) (hi : (c.toList == [109, 105, 110]) = false) (HX : Hid (∀ w, Calls Try.prog 65 #[.string c, .int .i64 n, .int .i64 n'] w (Gives (.int .i64 r1) w))) :
 Calls Try.prog 46 #[.string c, .agg #[.int .i64 0, .int .i64 n, .string s, .int .i64 x, .int .i64 y], .agg #[.int .i64 0, .int .i64 n', .string s', .int .i64 x', .int .i64 y']] w (Gives (.tuple #[.agg #[.int .i64 0, .int .i64 r1, .string ⟨#[]⟩, .int .i64 0, .int .i64 0], .int .i64 0]) w) := by
 obtain ⟨D1, D2, D3, hb0⟩ := two_boxes w 33 [.int .i64 0, .int .i64 n, .string s, .int .i64 x, .int .i64 y] [.int .i64 0, .int .i64 n', .string s', .int .i64 x', .int .i64 y'] [.int .i64 0, .int .i64 0, .string ⟨#[]⟩, .int .i64 0, .int .i64 0]
 have H1 := Lib.hid D1; have H2 := Lib.hid D2; have H3 := Lib.hid D3; have HB := Lib.hid hb0; clear D1 D2 D3 hb0
 go_enter Try.func46, Try.ntmps46
 go_wp2_with (fail)
 refine (HF.out _).mono ?_
 rintro e w1 ⟨rfl, hb⟩
 replace H1 := Lib.hid (H1.out.next hb); replace H2 := Lib.hid (H2.out.next hb); replace H3 := Lib.hid (H3.out.next hb); replace HB := Lib.hid (Below.next HB.out hb); clear hb
 obtain ⟨c0, c1, c2, c3, c4⟩ := five H1.out
 go_wp2_with (fail)
 clear c0 c1 c2 c3 c4
 refine (HA.out _).mono ?_
 rintro e w2 ⟨rfl, hb⟩
 replace H1 := Lib.hid (H1.out.next hb); replace H2 := Lib.hid (H2.out.next hb); replace H3 := Lib.hid (H3.out.next hb); replace HB := Lib.hid (Below.next HB.out hb); clear hb
 obtain ⟨e0, e1, e2, e3, e4⟩ := five H2.out
 go_wp2_with (fail)
 clear e0 e1 e2 e3 e4
 refine (HQ.out _).mono ?_
 rintro e w3 ⟨rfl, hb⟩
 replace H1 := Lib.hid (H1.out.next hb); replace H2 := Lib.hid (H2.out.next hb); replace H3 := Lib.hid (H3.out.next hb); replace HB := Lib.hid (Below.next HB.out hb); clear hb
 obtain ⟨c0, c1, c2, c3, c4⟩ := five H1.out
 obtain ⟨e0, e1, e2, e3, e4⟩ := five H2.out
 go_wp2_with (fail)
 clear c0 c1 c2 c3 c4 e0 e1 e2 e3 e4
 refine (HX.out _).mono ?_
 rintro e w5 ⟨rfl, hb⟩
 replace H1 := Lib.hid (H1.out.next hb); replace H2 := Lib.hid (H2.out.next hb); replace H3 := Lib.hid (H3.out.next hb); replace HB := Lib.hid (Below.next HB.out hb); clear hb
 obtain ⟨f0, f1, f2, f3, f4⟩ := thaw H3.out
 obtain ⟨d0, d1, d2, d3, d4⟩ := five H3.out
 go_wp2_with (fail)
 clear f0 f1 f2 f3 f4 d0 d1 d2 d3 d4
 refine fin5 (P := bodyPost _ _ _ _ _) H3.out HB.out (by omega) _ _ _ _ _ fun w4 hx hy _ => ?_
 obtain ⟨c0, c1, c2, c3, c4⟩ := five hx
 exact bodyPost_ret (v := .tuple #[.agg #[.int .i64 0, .int .i64 r1, .string ⟨#[]⟩, .int .i64 0, .int .i64 0], .int .i64 0]) (by simp [results, Try.results46, go_sem, c0, c1, c2, c3, c4]) rfl ⟨rfl, hy⟩
set_option maxHeartbeats 1000000 in
theorem fold_p (c : ByteArray) (n x y n' x' y' r3 r4 : Int) (s s' : ByteArray) (w : World) (HF : Hid (∀ w, Calls Try.prog 63 #[.string c] w (Gives (.bool true) w))) (HA : Hid (∀ w, Calls Try.prog 53 #[.agg #[.int .i64 2, .int .i64 n, .string s, .int .i64 x, .int .i64 y]] w (Gives (.bool true) w))) (HQ : Hid (∀ w, Calls Try.prog 53 #[.agg #[.int .i64 2, .int .i64 n', .string s', .int .i64 x', .int .i64 y']] w (Gives (.bool true) w))) (hm : (c.toList == [109, 97, 120]) = false) (hi : (c.toList == [109, 105, 110]) = false) (HX : Hid (∀ w, Calls Try.prog 66 #[.string c, .agg #[.int .i64 x, .int .i64 y], .agg #[.int .i64 x', .int .i64 y']] w (Gives (.agg #[.int .i64 r3, .int .i64 r4]) w))) :
 Calls Try.prog 46 #[.string c, .agg #[.int .i64 2, .int .i64 n, .string s, .int .i64 x, .int .i64 y], .agg #[.int .i64 2, .int .i64 n', .string s', .int .i64 x', .int .i64 y']] w (Gives (.tuple #[.agg #[.int .i64 2, .int .i64 0, .string ⟨#[]⟩, .int .i64 r3, .int .i64 r4], .int .i64 0]) w) := by
 obtain ⟨D1, D2, D3, hb0⟩ := two_boxes w 33 [.int .i64 2, .int .i64 n, .string s, .int .i64 x, .int .i64 y] [.int .i64 2, .int .i64 n', .string s', .int .i64 x', .int .i64 y'] [.int .i64 0, .int .i64 0, .string ⟨#[]⟩, .int .i64 0, .int .i64 0]
 have H1 := Lib.hid D1; have H2 := Lib.hid D2; have H3 := Lib.hid D3; have HB := Lib.hid hb0; clear D1 D2 D3 hb0
 go_enter Try.func46, Try.ntmps46
 go_wp2_with (fail)
 refine (HF.out _).mono ?_
 rintro e w1 ⟨rfl, hb⟩
 replace H1 := Lib.hid (H1.out.next hb); replace H2 := Lib.hid (H2.out.next hb); replace H3 := Lib.hid (H3.out.next hb); replace HB := Lib.hid (Below.next HB.out hb); clear hb
 obtain ⟨c0, c1, c2, c3, c4⟩ := five H1.out
 go_wp2_with (fail)
 clear c0 c1 c2 c3 c4
 refine (HA.out _).mono ?_
 rintro e w2 ⟨rfl, hb⟩
 replace H1 := Lib.hid (H1.out.next hb); replace H2 := Lib.hid (H2.out.next hb); replace H3 := Lib.hid (H3.out.next hb); replace HB := Lib.hid (Below.next HB.out hb); clear hb
 obtain ⟨e0, e1, e2, e3, e4⟩ := five H2.out
 go_wp2_with (fail)
 clear e0 e1 e2 e3 e4
 refine (HQ.out _).mono ?_
 rintro e w3 ⟨rfl, hb⟩
 replace H1 := Lib.hid (H1.out.next hb); replace H2 := Lib.hid (H2.out.next hb); replace H3 := Lib.hid (H3.out.next hb); replace HB := Lib.hid (Below.next HB.out hb); clear hb
 obtain ⟨c0, c1, c2, c3, c4⟩ := five H1.out
 obtain ⟨e0, e1, e2, e3, e4⟩ := five H2.out
 go_wp2_with (fail)
 clear c0 c1 c2 c3 c4 e0 e1 e2 e3 e4
 refine (HX.out _).mono ?_
 rintro e w5 ⟨rfl, hb⟩
 replace H1 := Lib.hid (H1.out.next hb); replace H2 := Lib.hid (H2.out.next hb); replace H3 := Lib.hid (H3.out.next hb); replace HB := Lib.hid (Below.next HB.out hb); clear hb
 obtain ⟨f0, f1, f2, f3, f4⟩ := thaw H3.out
 obtain ⟨d0, d1, d2, d3, d4⟩ := five H3.out
 go_wp2_with (fail)
 clear f0 f1 f2 f3 f4 d0 d1 d2 d3 d4
 refine fin5 (P := bodyPost _ _ _ _ _) H3.out HB.out (by omega) _ _ _ _ _ fun w4 hx hy _ => ?_
 obtain ⟨c0, c1, c2, c3, c4⟩ := five hx
 exact bodyPost_ret (v := .tuple #[.agg #[.int .i64 2, .int .i64 0, .string ⟨#[]⟩, .int .i64 r3, .int .i64 r4], .int .i64 0]) (by simp [results, Try.results46, go_sem, c0, c1, c2, c3, c4]) rfl ⟨rfl, hy⟩
set_option maxHeartbeats 1000000 in
theorem fold_t (c : ByteArray) (n x y n' x' y' : Int) (s s' : ByteArray) (w : World) (HF : Hid (∀ w, Calls Try.prog 63 #[.string c] w (Gives (.bool true) w))) (HA : Hid (∀ w, Calls Try.prog 53 #[.agg #[.int .i64 1, .int .i64 n, .string s, .int .i64 x, .int .i64 y]] w (Gives (.bool true) w))) (HQ : Hid (∀ w, Calls Try.prog 53 #[.agg #[.int .i64 1, .int .i64 n', .string s', .int .i64 x', .int .i64 y']] w (Gives (.bool true) w))) (hm : (c.toList == [109, 97, 120]) = false) (hi : (c.toList == [109, 105, 110]) = false) :
 Calls Try.prog 46 #[.string c, .agg #[.int .i64 1, .int .i64 n, .string s, .int .i64 x, .int .i64 y], .agg #[.int .i64 1, .int .i64 n', .string s', .int .i64 x', .int .i64 y']] w (Gives (.tuple #[.agg #[.int .i64 0, .int .i64 0, .string ⟨#[]⟩, .int .i64 0, .int .i64 0], .int .i64 13]) w) := by
 obtain ⟨D1, D2, D3, hb0⟩ := two_boxes w 33 [.int .i64 1, .int .i64 n, .string s, .int .i64 x, .int .i64 y] [.int .i64 1, .int .i64 n', .string s', .int .i64 x', .int .i64 y'] [.int .i64 0, .int .i64 0, .string ⟨#[]⟩, .int .i64 0, .int .i64 0]
 have H1 := Lib.hid D1; have H2 := Lib.hid D2; have H3 := Lib.hid D3; have HB := Lib.hid hb0; clear D1 D2 D3 hb0
 go_enter Try.func46, Try.ntmps46
 go_wp2_with (fail)
 refine (HF.out _).mono ?_
 rintro e w1 ⟨rfl, hb⟩
 replace H1 := Lib.hid (H1.out.next hb); replace H2 := Lib.hid (H2.out.next hb); replace H3 := Lib.hid (H3.out.next hb); replace HB := Lib.hid (Below.next HB.out hb); clear hb
 obtain ⟨c0, c1, c2, c3, c4⟩ := five H1.out
 go_wp2_with (fail)
 clear c0 c1 c2 c3 c4
 refine (HA.out _).mono ?_
 rintro e w2 ⟨rfl, hb⟩
 replace H1 := Lib.hid (H1.out.next hb); replace H2 := Lib.hid (H2.out.next hb); replace H3 := Lib.hid (H3.out.next hb); replace HB := Lib.hid (Below.next HB.out hb); clear hb
 obtain ⟨e0, e1, e2, e3, e4⟩ := five H2.out
 go_wp2_with (fail)
 clear e0 e1 e2 e3 e4
 refine (HQ.out _).mono ?_
 rintro e w3 ⟨rfl, hb⟩
 replace H1 := Lib.hid (H1.out.next hb); replace H2 := Lib.hid (H2.out.next hb); replace H3 := Lib.hid (H3.out.next hb); replace HB := Lib.hid (Below.next HB.out hb); clear hb
 obtain ⟨c0, c1, c2, c3, c4⟩ := five H1.out
 obtain ⟨e0, e1, e2, e3, e4⟩ := five H2.out
 obtain ⟨f0, f1, f2, f3, f4⟩ := thaw H3.out
 obtain ⟨d0, d1, d2, d3, d4⟩ := five H3.out
 go_wp2_with (fail)
 clear f0 f1 f2 f3 f4 d0 d1 d2 d3 d4
 refine fin5 (P := bodyPost _ _ _ _ _) H3.out HB.out (by omega) _ _ _ _ _ fun w4 hx hy _ => ?_
 obtain ⟨c0, c1, c2, c3, c4⟩ := five hx
 exact bodyPost_ret (v := .tuple #[.agg #[.int .i64 0, .int .i64 0, .string ⟨#[]⟩, .int .i64 0, .int .i64 0], .int .i64 13]) (by simp [results, Try.results46, go_sem, c0, c1, c2, c3, c4]) rfl ⟨rfl, hy⟩
theorem tx_self (s : ByteArray) : tx s.data.toList = s := by cases s; rfl
theorem text_max (c : ByteArray) : (c.toList == [109, 97, 120]) = decide (c.data.toList = wMax) := by
 rw [ByteArray.toList_eq, Bool.eq_iff_iff, beq_iff_eq, decide_eq_true_iff]; rfl
theorem text_min (c : ByteArray) : (c.toList == [109, 105, 110]) = decide (c.data.toList = wMin) := by
 rw [ByteArray.toList_eq, Bool.eq_iff_iff, beq_iff_eq, decide_eq_true_iff]; rfl
theorem rt_len {v : Va} (h : rt v = true) : v.s.length ≤ 4096 := by
 rcases rt_yes h with h | h | h
 · rw [h.2.2.2.1]; exact Nat.zero_le _
 · exact h.2.2.1
 · rw [h.2.2.1]; exact Nat.zero_le _
theorem fold_any (c : ByteArray) (k n x y k' n' x' y' : Int) (s s' : ByteArray) (w : World) :
 Calls Try.prog 46 #[.string c, .agg #[.int .i64 k, .int .i64 n, .string s, .int .i64 x, .int .i64 y], .agg #[.int .i64 k', .int .i64 n', .string s', .int .i64 x', .int .i64 y']] w
  (Gives (.tuple #[.agg #[.int .i64 (fo c.data.toList ⟨k, n, s.data.toList, x, y⟩ ⟨k', n', s'.data.toList, x', y'⟩).1.k, .int .i64 (fo c.data.toList ⟨k, n, s.data.toList, x, y⟩ ⟨k', n', s'.data.toList, x', y'⟩).1.n, .string (tx (fo c.data.toList ⟨k, n, s.data.toList, x, y⟩ ⟨k', n', s'.data.toList, x', y'⟩).1.s), .int .i64 (fo c.data.toList ⟨k, n, s.data.toList, x, y⟩ ⟨k', n', s'.data.toList, x', y'⟩).1.x, .int .i64 (fo c.data.toList ⟨k, n, s.data.toList, x, y⟩ ⟨k', n', s'.data.toList, x', y'⟩).1.y], .int .i64 (fo c.data.toList ⟨k, n, s.data.toList, x, y⟩ ⟨k', n', s'.data.toList, x', y'⟩).2]) w) := by
 have HF := isF_any c
 have HA := right_val k n x y s
 have HQ := right_val k' n' x' y' s'
 by_cases h1 : isF c.data.toList = true
 rotate_left
 · rw [fo_no (fun h => h1 h.1)]
   rw [Bool.not_eq_true] at h1
   rw [h1] at HF
   exact fold_e1 c k k' n x y n' x' y' s s' w (Lib.hid HF)
 rw [h1] at HF
 by_cases h2 : rt ⟨k, n, s.data.toList, x, y⟩ = true
 rotate_left
 · rw [fo_no (fun h => h2 h.2.1)]
   rw [Bool.not_eq_true] at h2
   rw [h2] at HA
   exact fold_e2 c k k' n x y n' x' y' s s' w (Lib.hid HF) (Lib.hid HA)
 rw [h2] at HA
 by_cases h3 : rt ⟨k', n', s'.data.toList, x', y'⟩ = true
 rotate_left
 · rw [fo_no (fun h => h3 h.2.2)]
   rw [Bool.not_eq_true] at h3
   rw [h3] at HQ
   exact fold_e3 c k k' n x y n' x' y' s s' w (Lib.hid HF) (Lib.hid HA) (Lib.hid HQ)
 rw [h3] at HQ
 rw [fo_yes ⟨h1, h2, h3⟩]
 by_cases h4 : k = k'
 rotate_left
 · rw [if_neg (fun h => h4 h.1)]
   exact fold_k c k k' n x y n' x' y' s s' w (Lib.hid HF) (Lib.hid HA) (Lib.hid HQ) h4
 subst h4
 have hm := text_max c
 have hi := text_min c
 have l1 : s.size ≤ 281474976710656 := by
  have : s.size ≤ 4096 := rt_len h2
  omega
 have l2 : s'.size ≤ 281474976710656 := by
  have : s'.size ≤ 4096 := rt_len h3
  omega
 have hc : (c.data.toList = wMax ∨ c.data.toList = wMin) → opf c.data.toList ⟨k, n, s.data.toList, x, y⟩ ⟨k, n', s'.data.toList, x', y'⟩ = if decide (ord ⟨k, n, s.data.toList, x, y⟩ ⟨k, n', s'.data.toList, x', y'⟩ < 0) = decide (c.data.toList = wMax) then ⟨k, n', s'.data.toList, x', y'⟩ else ⟨k, n, s.data.toList, x, y⟩ := fun h => if_pos h
 have HC : ∀ w, (c.data.toList = wMax ∨ c.data.toList = wMin) → Calls Try.prog 64 #[.string c, .agg #[.int .i64 k, .int .i64 n, .string s, .int .i64 x, .int .i64 y], .agg #[.int .i64 k, .int .i64 n', .string s', .int .i64 x', .int .i64 y']] w
  (Gives (.agg #[.int .i64 (opf c.data.toList ⟨k, n, s.data.toList, x, y⟩ ⟨k, n', s'.data.toList, x', y'⟩).k, .int .i64 (opf c.data.toList ⟨k, n, s.data.toList, x, y⟩ ⟨k, n', s'.data.toList, x', y'⟩).n, .string (tx (opf c.data.toList ⟨k, n, s.data.toList, x, y⟩ ⟨k, n', s'.data.toList, x', y'⟩).s), .int .i64 (opf c.data.toList ⟨k, n, s.data.toList, x, y⟩ ⟨k, n', s'.data.toList, x', y'⟩).x, .int .i64 (opf c.data.toList ⟨k, n, s.data.toList, x, y⟩ ⟨k, n', s'.data.toList, x', y'⟩).y]) w) := by
  intro w h
  rw [hc h]
  by_cases h5 : decide (ord ⟨k, n, s.data.toList, x, y⟩ ⟨k, n', s'.data.toList, x', y'⟩ < 0) = decide (c.data.toList = wMax)
  · rw [if_pos h5]
    simp only [tx_self]
    exact choose_b c k n x y k n' x' y' s s' l2 w (by rw [hm]; exact beq_iff_eq.2 h5)
  · rw [if_neg h5]
    simp only [tx_self]
    exact choose_a c k n x y k n' x' y' s s' l1 w (by rw [hm]; exact beq_eq_false_iff_ne.2 h5)
 by_cases h5 : c.data.toList = wMax
 · rw [if_pos ⟨rfl, decide_eq_true (.inl h5)⟩]
   rw [decide_eq_true h5] at hm
   exact fold_c0 c _ _ _ _ _ _ _ _ _ _ _ _ _ _ w (Lib.hid HF) (Lib.hid HA) (Lib.hid HQ) hm (Lib.hid fun w => HC w (.inl h5))
 rw [decide_eq_false h5] at hm
 by_cases h6 : c.data.toList = wMin
 · rw [if_pos ⟨rfl, decide_eq_true (.inr (.inl h6))⟩]
   rw [decide_eq_true h6] at hi
   exact fold_c1 c _ _ _ _ _ _ _ _ _ _ _ _ _ _ w (Lib.hid HF) (Lib.hid HA) (Lib.hid HQ) hm hi (Lib.hid fun w => HC w (.inr h6))
 rw [decide_eq_false h6] at hi
 have hno : ¬ (c.data.toList = wMax ∨ c.data.toList = wMin) := fun h => h.elim h5 h6
 by_cases k0 : k = 0
 · subst k0
   rw [if_pos ⟨rfl, decide_eq_true (.inr (.inr (.inl rfl)))⟩]
   have e : opf c.data.toList ⟨0, n, s.data.toList, x, y⟩ ⟨0, n', s'.data.toList, x', y'⟩ = vn (if c.data.toList = wSum then rg (n + n') 9007199254740992 else (Int.gcd n n' : Int)) := by unfold opf; rw [if_neg hno, if_pos rfl]
   rw [e]
   exact fold_n c _ _ _ _ _ _ _ _ _ w (Lib.hid HF) (Lib.hid HA) (Lib.hid HQ) hm hi (Lib.hid fun w => numbers_any c n n' (rt_k0 h2 rfl).1 (rt_k0 h3 rfl).1 w)
 by_cases k2 : k = 2
 · subst k2
   rw [if_pos ⟨rfl, decide_eq_true (.inr (.inr (.inr rfl)))⟩]
   have e : opf c.data.toList ⟨2, n, s.data.toList, x, y⟩ ⟨2, n', s'.data.toList, x', y'⟩ = vp (if c.data.toList = wSum then ⟨rg (x + x') 16777216, rg (y + y') 16777216⟩ else Pt.cg ⟨x, y⟩ ⟨x', y'⟩) := by unfold opf; rw [if_neg hno, if_neg (show ¬ (2 : Int) = 0 by decide)]; rfl
   rw [e]
   have g1 : rb ⟨x, y⟩ = true := (rt_k2 h2 rfl).1
   have g2 : rb ⟨x', y'⟩ = true := (rt_k2 h3 rfl).1
   have hs := sum_text c
   by_cases h7 : c.data.toList = wSum
   · rw [decide_eq_true h7] at hs
     rw [if_pos h7]
     have b1 := rb_xy g1; have b2 := rb_xy g2
     exact fold_p c _ _ _ _ _ _ _ _ _ _ w (Lib.hid HF) (Lib.hid HA) (Lib.hid HQ) hm hi (Lib.hid fun w => spots_sum c x y x' y' hs b1.1 b1.2 b2.1 b2.2 w)
   · rw [decide_eq_false h7] at hs
     rw [if_neg h7]
     exact fold_p c _ _ _ _ _ _ _ _ _ _ w (Lib.hid HF) (Lib.hid HA) (Lib.hid HQ) hm hi (Lib.hid fun w => spots_gcd c x y x' y' hs g1 g2 w)
 have k1 : k = 1 := by
  rcases rt_yes h2 with h | h | h
  · exact absurd h.1 k0
  · exact h.1
  · exact absurd h.1 k2
 subst k1
 rw [if_neg (fun h => by rcases of_decide_eq_true h.2 with h | h | h | h <;> first | exact h5 h | exact h6 h | exact absurd (show (1 : Int) = 0 from h) (by decide) | exact absurd (show (1 : Int) = 2 from h) (by decide))]
 exact fold_t c _ _ _ _ _ _ _ _ w (Lib.hid HF) (Lib.hid HA) (Lib.hid HQ) hm hi
end Go.Proofs.Ytamhfjlffacakaa.Jo
