/-
  Small texts of this claim, together: JoRight2, JoPut3, JoLaw, EvRun2, EvSteps, EvNamX, JoOf, JoArg.
-/
import Derived.Test.YtimllihegnokeaaGreatDoorQ7
import Derived.Test.YtimllihegnokeaaGreatDoorQ3
import Derived.Test.YtimllihegnokeaaGreatDoorQ4
import Derived.Test.YtimllihegnokeaaGreatDoorQExWrite
import Derived.Deep.Cut
import Derived.Test.YtimllihegnokeaaGreatDoorQ6
import Derived.Deep.RegionHeld3
namespace Go.Proofs.YtimllihegnokeaaGreatDoor.Jo
open Go.ChangeShapes Go.WideShapes Go.ChangeAt Go.RowKit Ov Va Ex Ev
theorem only1 (n0 n1 n2 n3 n4 : Bool) : ((true || n0) == true && ((true || n1) == true && ((false || n2) == false && ((true || n3) == true && (true || n4) == true)))) = !n2 := by cases n2 <;> rfl
theorem only2 (n0 n1 n2 n3 n4 : Bool) : ((true || n0) == true && ((false || n1) == false && ((false || n2) == false && ((false || n3) == false && (false || n4) == false)))) = !(n1 || n2 || n3 || n4) := by cases n1 <;> cases n2 <;> cases n3 <;> cases n4 <;> rfl
theorem words_ok (j : Jb) (A1 : Option Addr) (c1 : Nat) (A2 : Option Addr) (c2 : Nat) (A3 : Option Addr) (c3 : Nat) (w : World) (hj : JL w j A1 A2 A3) (hk : KN w) : Calls Tryz.prog 38 #[.agg #[.string (tx j.nm), .int .i64 j.t, .int .i64 j.p, .int .i64 j.k, .int .i64 j.n, .int .i64 j.f, .slice A1 j.m.length c1, .slice A2 j.b.length c2, .slice A3 j.r.length c3, .string (tx j.fd), .bool j.cb]] w (Gives (.bool (wdOk j)) w) := by
 have H1 := Lib.hid (fun w1 (h : Below w.heap.size w w1) => only_any j.m A1 c1 true true false true true w1 (hj.m.next h) (hk.next h) hj.lm)
 have H2 := Lib.hid (fun w1 (h : Below w.heap.size w w1) => only_any j.b A2 c2 true false false false false w1 (hj.b.next h) (hk.next h) hj.lb)
 have H3 := Lib.hid (fun w1 (h : Below w.heap.size w w1) => emits_any j.b A2 c2 w1 (hj.b.next h) hj.lb)
 have H4 := Lib.hid (fun w1 (h : Below w.heap.size w w1) => emits_any j.r A3 c3 w1 (hj.r.next h) hj.lr)
 rw [only1] at H1
 rw [only2] at H2
 unfold wdOk
 generalize (!hs j.m 2) = q1 at *
 generalize (!(hs j.b 1 || hs j.b 2 || hs j.b 3 || hs j.b 4)) = q2 at *
 generalize em j.b = q3 at *
 generalize em j.r = q4 at *
 clear hj hk
 have HJ := Lib.hid (made11 w 32 (.string (tx j.nm)) (.int .i64 j.t) (.int .i64 j.p) (.int .i64 j.k) (.int .i64 j.n) (.int .i64 j.f) (.slice A1 j.m.length c1) (.slice A2 j.b.length c2) (.slice A3 j.r.length c3) (.string (tx j.fd)) (.bool j.cb))
 have HB := Lib.hid (box1 w (.cells #[.string (tx j.nm), .int .i64 j.t, .int .i64 j.p, .int .i64 j.k, .int .i64 j.n, .int .i64 j.f, .slice A1 j.m.length c1, .slice A2 j.b.length c2, .slice A3 j.r.length c3, .string (tx j.fd), .bool j.cb] 32))
 go_enter Tryz.func38, Tryz.ntmps38
 obtain ⟨e0, e1, e2, e3, e4, e5, e6, e7, e8, e9, e10⟩ := elev HJ.out
 go_wp2_with (fail)
 clear e0 e1 e2 e3 e4 e5 e6 e7 e8 e9 e10
 generalize w.alloc (.cells #[.string (tx j.nm), .int .i64 j.t, .int .i64 j.p, .int .i64 j.k, .int .i64 j.n, .int .i64 j.f, .slice A1 j.m.length c1, .slice A2 j.b.length c2, .slice A3 j.r.length c3, .string (tx j.fd), .bool j.cb] 32) = v at *
 refine (H1.out _ HB.out).mono ?_
 rintro e w1 ⟨rfl, hb⟩
 replace HJ := Lib.hid (HJ.out.next hb); replace HB := Lib.hid (Below.next HB.out hb); clear hb
 cases q1
 · go_wp2_with (fail)
   go_ret
   exact ⟨by simp [*], HB.out⟩
 obtain ⟨e0, e1, e2, e3, e4, e5, e6, e7, e8, e9, e10⟩ := elev HJ.out
 go_wp2_with (fail)
 clear e0 e1 e2 e3 e4 e5 e6 e7 e8 e9 e10
 refine (H2.out _ HB.out).mono ?_
 rintro e w2 ⟨rfl, hb⟩
 replace HJ := Lib.hid (HJ.out.next hb); replace HB := Lib.hid (Below.next HB.out hb); clear hb
 cases q2
 · go_wp2_with (fail)
   go_ret
   exact ⟨by simp [*], HB.out⟩
 obtain ⟨e0, e1, e2, e3, e4, e5, e6, e7, e8, e9, e10⟩ := elev HJ.out
 go_wp2_with (fail)
 clear e0 e1 e2 e3 e4 e5 e6 e7 e8 e9 e10
 refine (H3.out _ HB.out).mono ?_
 rintro e w3 ⟨rfl, hb⟩
 replace HJ := Lib.hid (HJ.out.next hb); replace HB := Lib.hid (Below.next HB.out hb); clear hb
 cases q3
 rotate_left
 · go_wp2_with (fail)
   go_ret
   exact ⟨by simp [*], HB.out⟩
 obtain ⟨e0, e1, e2, e3, e4, e5, e6, e7, e8, e9, e10⟩ := elev HJ.out
 go_wp2_with (fail)
 clear e0 e1 e2 e3 e4 e5 e6 e7 e8 e9 e10
 refine (H4.out _ HB.out).mono ?_
 rintro e w4 ⟨rfl, hb⟩
 replace HJ := Lib.hid (HJ.out.next hb); replace HB := Lib.hid (Below.next HB.out hb); clear hb
 go_wp2_with (fail)
 go_ret
 exact ⟨by simp [*], HB.out⟩
set_option maxHeartbeats 1000000 in
theorem right_any (j : Jb) (A1 : Option Addr) (c1 : Nat) (A2 : Option Addr) (c2 : Nat) (A3 : Option Addr) (c3 : Nat) (w : World) (hj : JL w j A1 A2 A3) (hk : KN w) (hl : j.nm.length ≤ 9223372036854775807) : Calls Tryz.prog 12 #[.agg #[.string (tx j.nm), .int .i64 j.t, .int .i64 j.p, .int .i64 j.k, .int .i64 j.n, .int .i64 j.f, .slice A1 j.m.length c1, .slice A2 j.b.length c2, .slice A3 j.r.length c3, .string (tx j.fd), .bool j.cb]] w (Gives (.int .i64 (jr j)) w) := by
 have H1 := Lib.hid (fun w => name_any (tx j.nm) (by rw [tx_size]; exact hl) w)
 rw [tx_list] at H1
 have H2 := Lib.hid (fun w1 (_ : Below w.heap.size w w1) => numbers_ok j A1 c1 A2 c2 A3 c3 w1)
 have H3 := Lib.hid (fun w1 (h : Below w.heap.size w w1) => express_ok j A1 c1 A2 c2 A3 c3 w1 (hj.next h) (hk.next h))
 have H4 := Lib.hid (fun w1 (_ : Below w.heap.size w w1) => fold_ok j A1 c1 A2 c2 A3 c3 w1)
 have H5 := Lib.hid (fun w1 (h : Below w.heap.size w w1) => words_ok j A1 c1 A2 c2 A3 c3 w1 (hj.next h) (hk.next h))
 have HE := empty_tx j.fd
 obtain ⟨q1, g1⟩ : ∃ q, nmOk j.nm = q := ⟨_, rfl⟩
 obtain ⟨q2, g2⟩ : ∃ q, numOk j = q := ⟨_, rfl⟩
 obtain ⟨q3, g3⟩ : ∃ q, exOk j = q := ⟨_, rfl⟩
 obtain ⟨q4, g4⟩ : ∃ q, fdOk j = q := ⟨_, rfl⟩
 obtain ⟨q5, g5⟩ : ∃ q, wdOk j = q := ⟨_, rfl⟩
 obtain ⟨q6, g6⟩ : ∃ q, j.fd.isEmpty = q := ⟨_, rfl⟩
 rw [g1] at H1; rw [g2] at H2; rw [g3] at H3; rw [g4] at H4; rw [g5] at H5; rw [g6] at HE
 replace g1 := Lib.hid g1; replace g2 := Lib.hid g2; replace g3 := Lib.hid g3; replace g4 := Lib.hid g4; replace g5 := Lib.hid g5; replace g6 := Lib.hid g6
 clear hj hk hl
 have HJ := Lib.hid (made11 w 32 (.string (tx j.nm)) (.int .i64 j.t) (.int .i64 j.p) (.int .i64 j.k) (.int .i64 j.n) (.int .i64 j.f) (.slice A1 j.m.length c1) (.slice A2 j.b.length c2) (.slice A3 j.r.length c3) (.string (tx j.fd)) (.bool j.cb))
 have HB := Lib.hid (box1 w (.cells #[.string (tx j.nm), .int .i64 j.t, .int .i64 j.p, .int .i64 j.k, .int .i64 j.n, .int .i64 j.f, .slice A1 j.m.length c1, .slice A2 j.b.length c2, .slice A3 j.r.length c3, .string (tx j.fd), .bool j.cb] 32))
 go_enter Tryz.func12, Tryz.ntmps12
 obtain ⟨e0, e1, e2, e3, e4, e5, e6, e7, e8, e9, e10⟩ := elev HJ.out
 go_wp2_with (fail)
 clear e0 e1 e2 e3 e4 e5 e6 e7 e8 e9 e10
 generalize w.alloc (.cells #[.string (tx j.nm), .int .i64 j.t, .int .i64 j.p, .int .i64 j.k, .int .i64 j.n, .int .i64 j.f, .slice A1 j.m.length c1, .slice A2 j.b.length c2, .slice A3 j.r.length c3, .string (tx j.fd), .bool j.cb] 32) = v at *
 refine (H1.out _).mono ?_
 rintro e w1 ⟨rfl, hb⟩
 replace HJ := Lib.hid (HJ.out.next hb); replace HB := Lib.hid (Below.next HB.out hb); clear hb
 cases q1
 · go_wp2_with (fail)
   go_ret
   exact ⟨by simp [jr, g1.out], HB.out⟩
 obtain ⟨e0, e1, e2, e3, e4, e5, e6, e7, e8, e9, e10⟩ := elev HJ.out
 go_wp2_with (fail)
 clear e0 e1 e2 e3 e4 e5 e6 e7 e8 e9 e10
 refine (H2.out _ HB.out).mono ?_
 rintro e w2 ⟨rfl, hb⟩
 replace HJ := Lib.hid (HJ.out.next hb); replace HB := Lib.hid (Below.next HB.out hb); clear hb
 cases q2
 · go_wp2_with (fail)
   go_ret
   exact ⟨by simp [jr, g1.out, g2.out], HB.out⟩
 obtain ⟨e0, e1, e2, e3, e4, e5, e6, e7, e8, e9, e10⟩ := elev HJ.out
 go_wp2_with (fail)
 clear e0 e1 e2 e3 e4 e5 e6 e7 e8 e9 e10
 refine (H3.out _ HB.out).mono ?_
 rintro e w3 ⟨rfl, hb⟩
 replace HJ := Lib.hid (HJ.out.next hb); replace HB := Lib.hid (Below.next HB.out hb); clear hb
 cases q3
 · go_wp2_with (fail)
   go_ret
   exact ⟨by simp [jr, g1.out, g2.out, g3.out], HB.out⟩
 obtain ⟨e0, e1, e2, e3, e4, e5, e6, e7, e8, e9, e10⟩ := elev HJ.out
 go_wp2_with (fail)
 clear e0 e1 e2 e3 e4 e5 e6 e7 e8 e9 e10
 refine (H4.out _ HB.out).mono ?_
 rintro e w4 ⟨rfl, hb⟩
 replace HJ := Lib.hid (HJ.out.next hb); replace HB := Lib.hid (Below.next HB.out hb); clear hb
 cases q4
 · go_wp2_with (fail)
   go_ret
   exact ⟨by simp [jr, g1.out, g2.out, g3.out, g4.out], HB.out⟩
 obtain ⟨e0, e1, e2, e3, e4, e5, e6, e7, e8, e9, e10⟩ := elev HJ.out
 go_wp2_with (fail)
 clear e0 e1 e2 e3 e4 e5 e6 e7 e8 e9 e10
 refine (H5.out _ HB.out).mono ?_
 rintro e w5 ⟨rfl, hb⟩
 replace HJ := Lib.hid (HJ.out.next hb); replace HB := Lib.hid (Below.next HB.out hb); clear hb
 cases q5
 · go_wp2_with (fail)
   go_ret
   exact ⟨by simp [jr, g1.out, g2.out, g3.out, g4.out, g5.out], HB.out⟩
 obtain ⟨e0, e1, e2, e3, e4, e5, e6, e7, e8, e9, e10⟩ := elev HJ.out
 obtain ⟨q7, g7⟩ : ∃ q, j.cb = q := ⟨_, rfl⟩
 rw [g7] at e10
 replace g7 := Lib.hid g7
 cases q7
 all_goals
  cases q6
 all_goals
  go_wp2_with (fail)
  go_ret
  exact ⟨by simp [jr, g1.out, g2.out, g3.out, g4.out, g5.out, g6.out, g7.out], HB.out⟩
end Go.Proofs.YtimllihegnokeaaGreatDoor.Jo
namespace Go.Proofs.YtimllihegnokeaaGreatDoor.Jo
open Go.ChangeShapes Go.WideShapes Go.ChangeAt Go.RowKit Ov Va Ex
set_option maxHeartbeats 1000000 in
theorem pute_any (b : Nat) (l : List UInt8) (x : Int) (word : List UInt8) (L : List No) (A : Option Addr) (c : Nat) (w : World) (h : Wr b l x w) (hn : Nds w A L) (hk : KM w) (ht : Tab w) (hc : L.length ≤ c) (hl : L.length ≤ 4294967296) (hsz : l.length + word.length + (wq L).1.length ≤ 1000000) (hB : b ≤ w.heap.size) :
 Calls Tryz.prog 26 #[.string (tx word), .slice A L.length c, .pointer (some ⟨b + 1, 0, none⟩), .pointer (some ⟨b + 1 + 1, 0, none⟩)] w
  (fun e w' => e = .returned (.tuple #[]) ∧ Wr b (l ++ ((word ++ 32 :: (wq L).1) ++ [10])) (orl [x, ((wq L).2 : Int)]) w' ∧ Below b w w') := by
 have HE := Lib.hid (ewrite_any L A c w hn hk ht hc hl)
 have HW := Lib.hid h
 clear h hn hk ht
 generalize (wq L).1 = s at *
 generalize ((wq L).2 : Int) = y at *
 go_enter Tryz.func26, Tryz.ntmps26
 go_wp2_with (fail)
 refine HE.out.mono ?_
 rintro e w1 ⟨rfl, hb⟩
 have HW1 := Lib.hid (HW.out.next hb)
 have HB1 := Lib.hid (show Below b w w1 from hb.mono hB)
 have hB1 : b ≤ w1.heap.size := by have := hb.size; omega
 clear hb HE HW
 have c0 := HW1.out.fault
 go_wp2_with (fail)
 clear c0
 refine (orE_any [x, y] w1.heap.size _ (Blk.made w1 27 [.int .i64 x, .int .i64 y] rfl) (by simp)).mono ?_
 rintro e w2 ⟨rfl, rfl⟩
 have HW2 := Lib.hid (HW1.out.next (box1 w1 (.cells #[.int .i64 x, .int .i64 y] 27)))
 have HB2 := Lib.hid (HB1.out.alloc hB1 (.cells #[.int .i64 x, .int .i64 y] 27))
 have c0 := HW2.out.fault
 have f0 := HW2.out.thaw
 have hlt := HW2.out.lt
 obtain ⟨z, hz⟩ : ∃ z, orl [x, y] = z := ⟨_, rfl⟩
 have HZ := Lib.hid hz
 rw [hz]
 clear HW1 HB1 hz
 go_upto_region 2 with fail
 have HW3 := Lib.hid (HW2.out.setx z)
 have HB3 := Lib.hid (HB2.out.setCell (p := ⟨b + 1, 0, none⟩) (Nat.le_succ _) (.int .i64 z))
 clear c0 f0 hlt HW2 HB2
 change Code.wp _ _ _ _ ((w1.alloc (.cells #[.int .i64 x, .int .i64 y] 27)).setCell ⟨b + 1, 0, none⟩ (.int .i64 z))
 generalize (w1.alloc (.cells #[.int .i64 x, .int .i64 y] 27)).setCell ⟨b + 1, 0, none⟩ (.int .i64 z) = w3 at *
 have c0 := HW3.out.func
 go_wp2_with (fail)
 clear c0
 refine (putw2 (tx word) (tx s) HW3.out (by rw [tx_size, tx_size]; exact hsz)).mono ?_
 rintro e w4 ⟨rfl, hw, hb⟩
 rw [tx_list, tx_list] at hw
 have HW4 := Lib.hid hw; have HB4 := Lib.hid (HB3.out.trans hb)
 clear hw hb
 go_wp2_with (fail)
 refine bodyPost_end (results_none rfl _ _ _) rfl ?_
 exact ⟨rfl, by rw [HZ.out]; exact HW4.out, HB4.out⟩
end Go.Proofs.YtimllihegnokeaaGreatDoor.Jo
namespace Go.Proofs.YtimllihegnokeaaGreatDoor.Jo
open Go.ChangeShapes Go.WideShapes Go.ChangeAt Go.RowKit Ov Va Ex Ev
structure Sml (j : Jb) : Prop where
 m : j.m.length < 200
 b : j.b.length < 200
 r : j.r.length < 200
 nm : j.nm.length ≤ 100
def SmQ (j : Jb) (w : World) (e : Ending) (w' : World) : Prop := ∃ q : Int, e = .returned (.int .i64 q) ∧ Below w.heap.size w w' ∧ (q = 0 ∨ (q = 1 ∧ Sml j))
structure JA (w : World) (j : Jb) (A1 A2 A3 : Option Addr) : Prop where
 m : Nds w A1 j.m
 b : Nds w A2 j.b
 r : Nds w A3 j.r
 lm : j.m.length ≤ maxLen
 lb : j.b.length ≤ maxLen
 lr : j.r.length ≤ maxLen
 ln : j.nm.length ≤ maxLen
theorem JA.next {w w' : World} {j : Jb} {A1 A2 A3 : Option Addr} (h : JA w j A1 A2 A3) (k : Below w.heap.size w w') : JA w' j A1 A2 A3 := ⟨h.m.next k, h.b.next k, h.r.next k, h.lm, h.lb, h.lr, h.ln⟩
theorem JA.small {w : World} {j : Jb} {A1 A2 A3 : Option Addr} (h : JA w j A1 A2 A3) (hs : Sml j) : JL w j A1 A2 A3 := ⟨h.m, h.b, h.r, by have := hs.m; omega, by have := hs.b; omega, by have := hs.r; omega⟩
set_option maxHeartbeats 2000000 in
set_option maxRecDepth 100000 in
theorem small_any (j : Jb) (A1 : Option Addr) (c1 : Nat) (A2 : Option Addr) (c2 : Nat) (A3 : Option Addr) (c3 : Nat) (w : World) (hj : JA w j A1 A2 A3) : Calls Tryz.prog 9 #[.agg #[.string (tx j.nm), .int .i64 j.t, .int .i64 j.p, .int .i64 j.k, .int .i64 j.n, .int .i64 j.f, .slice A1 j.m.length c1, .slice A2 j.b.length c2, .slice A3 j.r.length c3, .string (tx j.fd), .bool j.cb]] w (SmQ j w) := by
 have HJ := Lib.hid (made11 w 24 (.string (tx j.nm)) (.int .i64 j.t) (.int .i64 j.p) (.int .i64 j.k) (.int .i64 j.n) (.int .i64 j.f) (.slice A1 j.m.length c1) (.slice A2 j.b.length c2) (.slice A3 j.r.length c3) (.string (tx j.fd)) (.bool j.cb))
 have HB := Lib.hid (box1 w (.cells #[.string (tx j.nm), .int .i64 j.t, .int .i64 j.p, .int .i64 j.k, .int .i64 j.n, .int .i64 j.f, .slice A1 j.m.length c1, .slice A2 j.b.length c2, .slice A3 j.r.length c3, .string (tx j.fd), .bool j.cb] 24))
 have HA := Lib.hid (hj.next HB.out)
 have hlm := hj.lm; have hlb := hj.lb; have hlr := hj.lr; have hln := hj.ln
 unfold maxLen at hlm hlb hlr hln
 clear hj
 go_enter Tryz.func9, Tryz.ntmps9
 obtain ⟨e0, e1, e2, e3, e4, e5, e6, e7, e8, e9, e10⟩ := elev HJ.out
 have HL := Lib.hid (And.intro hlm (And.intro hlb (And.intro hlr hln)))
 clear hlm hlb hlr hln
 go_wp2_with (fail)
 go_loop [3, 4] (fun N I => ∃ (k : Nat) (n : Int), k ≤ j.m.length ∧ k ≤ 200 ∧ N = .int .i64 n ∧ I = .int .i64 (k : Int)) (fun _ I => 200 - (intOf I).toNat)
 case atStart => exact ⟨0, _, Nat.zero_le _, Nat.zero_le _, rfl, rfl⟩
 case round =>
  obtain ⟨k, n, hk, hk2, rfl, rfl⟩ := hrel
  rcases (show (k < j.m.length ∧ k < 200) ∨ k = j.m.length ∨ (k = 200 ∧ 200 < j.m.length) by omega) with ⟨hlt, h2⟩ | rfl | ⟨rfl, h3⟩
  · have HN := HA.out.m
    obtain ⟨G, O, hA⟩ := HN.shape (by omega)
    subst hA
    have a3 := HN.cell hlt 3 _ rfl
    clear HN
    generalize tx (nd j.m k).v.s = s at *
    go_wp2_with (fail)
    go_round
    case rel => exact ⟨k + 1, _, by omega, by omega, rfl, by go_num⟩
    case measure => simp [intOf]; omega
  all_goals
   clear hk hk2
   go_wp2_with (fail)
   go_loop [3, 5] (fun N I => ∃ (k : Nat) (n : Int), k ≤ j.b.length ∧ k ≤ 200 ∧ N = .int .i64 n ∧ I = .int .i64 (k : Int)) (fun _ I => 200 - (intOf I).toNat)
   case atStart => exact ⟨0, _, Nat.zero_le _, Nat.zero_le _, rfl, rfl⟩
   case round =>
    obtain ⟨k, n, hk, hk2, rfl, rfl⟩ := hrel
    rcases (show (k < j.b.length ∧ k < 200) ∨ k = j.b.length ∨ (k = 200 ∧ 200 < j.b.length) by omega) with ⟨hlt, h2⟩ | rfl | ⟨rfl, h3⟩
    · have HN := HA.out.b
      obtain ⟨G, O, hA⟩ := HN.shape (by omega)
      subst hA
      have a3 := HN.cell hlt 3 _ rfl
      clear HN
      generalize tx (nd j.b k).v.s = s at *
      go_wp2_with (fail)
      go_round
      case rel => exact ⟨k + 1, _, by omega, by omega, rfl, by go_num⟩
      case measure => simp [intOf]; omega
    all_goals
     clear hk hk2
     go_wp2_with (fail)
     go_loop [3, 6] (fun N I => ∃ (k : Nat) (n : Int), k ≤ j.r.length ∧ k ≤ 200 ∧ N = .int .i64 n ∧ I = .int .i64 (k : Int)) (fun _ I => 200 - (intOf I).toNat)
     case atStart => exact ⟨0, _, Nat.zero_le _, Nat.zero_le _, rfl, rfl⟩
     case round =>
      obtain ⟨k, n, hk, hk2, rfl, rfl⟩ := hrel
      rcases (show (k < j.r.length ∧ k < 200) ∨ k = j.r.length ∨ (k = 200 ∧ 200 < j.r.length) by omega) with ⟨hlt, h2⟩ | rfl | ⟨rfl, h3⟩
      · have HN := HA.out.r
        obtain ⟨G, O, hA⟩ := HN.shape (by omega)
        subst hA
        have a3 := HN.cell hlt 3 _ rfl
        clear HN
        generalize tx (nd j.r k).v.s = s at *
        go_wp2_with (fail)
        go_round
        case rel => exact ⟨k + 1, _, by omega, by omega, rfl, by go_num⟩
        case measure => simp [intOf]; omega
      all_goals
       clear hk hk2
       go_wp2_with (fail)
       go_wp2_with (fail)
       all_goals
        go_ret
        refine ⟨_, rfl, HB.out, ?_⟩
        first
         | exact .inl rfl
         | (refine .inr ⟨rfl, ?_⟩
            have hnm : (tx j.nm).size = j.nm.length := tx_size _
            exact ⟨by simp_all; omega, by simp_all; omega, by simp_all; omega, by simp_all; omega⟩)
end Go.Proofs.YtimllihegnokeaaGreatDoor.Jo
namespace Go.Proofs.YtimllihegnokeaaGreatDoor.Ev
open Go.ChangeShapes Go.WideShapes Go.ChangeAt Go.RowKit Ov Va Ga Ex
end Go.Proofs.YtimllihegnokeaaGreatDoor.Ev
namespace Go.Proofs.YtimllihegnokeaaGreatDoor.Ev
open Go.ChangeShapes Go.WideShapes Go.ChangeAt Go.RowKit Ov Tp Ga Va Ex
theorem nds_puts {w : World} {p : Option Addr} {l : List No} {C : Nat} (vs : List Value) : ∀ (o : Nat), Nds w p l → (∀ a, p = some a → a.block ≠ C) → Nds (putL w C o vs) p l := by
 intro o h hC hn
 obtain ⟨B, O, e, hc⟩ := h hn
 exact ⟨B, O, e, fun i j v hi hv => (cell_puts_other (fun e2 => hC _ e e2.symm) vs o).trans (hc i j v hi hv)⟩
end Go.Proofs.YtimllihegnokeaaGreatDoor.Ev
namespace Go.Proofs.YtimllihegnokeaaGreatDoor.Jo
open Go.ChangeShapes Go.WideShapes Go.ChangeAt Go.RowKit Ov Va Ex Ev
theorem own_ne {w : World} {base size n c b : Nat} {e : TypeId} {A : Option Addr} {xs : List Value} (h : w.ownsRow base e size (.slice A n c) n xs) (hb : b < base) : ∀ a, A = some a → a.block ≠ b := by
 intro a ha
 rcases h.2 with ⟨h1, _⟩ | ⟨g, cap, cur, h1, hg, _⟩
 · injection h1 with h1; rw [h1] at ha; cases ha
 · injection h1 with h1; rw [h1] at ha; injection ha with ha; rw [← ha]; show g ≠ b; omega
def OfQ (j : Jb) (w : World) (e : Ending) (w' : World) : Prop := ∃ B1 d1 B2 d2 B3 d3, e = .returned (.agg #[.string (tx j.nm), .int .i64 j.t, .int .i64 j.p, .int .i64 j.k, .int .i64 j.n, .int .i64 j.f, .slice B1 j.m.length d1, .slice B2 j.b.length d2, .slice B3 j.r.length d3, .string (tx j.fd), .bool j.cb]) ∧ Below w.heap.size w w' ∧ (Nds w' B1 j.m ∧ Nds w' B2 j.b ∧ Nds w' B3 j.r) ∧ j.m.length ≤ d1 ∧ j.b.length ≤ d2 ∧ j.r.length ≤ d3
set_option maxHeartbeats 2000000 in
set_option maxRecDepth 100000 in
theorem jof_any (j : Jb) (A1 : Option Addr) (c1 : Nat) (A2 : Option Addr) (c2 : Nat) (A3 : Option Addr) (c3 : Nat) (w : World) (hj : JA w j A1 A2 A3) (hs : Sml j) : Calls Tryz.prog 11 #[.agg #[.string (tx j.nm), .int .i64 j.t, .int .i64 j.p, .int .i64 j.k, .int .i64 j.n, .int .i64 j.f, .slice A1 j.m.length c1, .slice A2 j.b.length c2, .slice A3 j.r.length c3, .string (tx j.fd), .bool j.cb]] w (OfQ j w) := by
 have H1 := Lib.hid (fun w1 (h : Below w.heap.size w w1) => of_any j.m A1 c1 w1 (hj.m.next h) (by have := hs.m; omega))
 have H2 := Lib.hid (fun w1 (h : Below w.heap.size w w1) => of_any j.b A2 c2 w1 (hj.b.next h) (by have := hs.b; omega))
 have H3 := Lib.hid (fun w1 (h : Below w.heap.size w w1) => of_any j.r A3 c3 w1 (hj.r.next h) (by have := hs.r; omega))
 clear hj hs
 have HJ := Lib.hid ((made11 w 24 (.string (tx j.nm)) (.int .i64 j.t) (.int .i64 j.p) (.int .i64 j.k) (.int .i64 j.n) (.int .i64 j.f) (.slice A1 j.m.length c1) (.slice A2 j.b.length c2) (.slice A3 j.r.length c3) (.string (tx j.fd)) (.bool j.cb)).old (.cells #[.string ⟨#[]⟩, .int .i64 0, .int .i64 0, .int .i64 0, .int .i64 0, .int .i64 0, .slice none 0 0, .slice none 0 0, .slice none 0 0, .string ⟨#[]⟩, .bool false] 32))
 have HZ := Lib.hid (Blk.made (w.alloc (.cells #[.string (tx j.nm), .int .i64 j.t, .int .i64 j.p, .int .i64 j.k, .int .i64 j.n, .int .i64 j.f, .slice A1 j.m.length c1, .slice A2 j.b.length c2, .slice A3 j.r.length c3, .string (tx j.fd), .bool j.cb] 24)) 32 [.string ⟨#[]⟩, .int .i64 0, .int .i64 0, .int .i64 0, .int .i64 0, .int .i64 0, .slice none 0 0, .slice none 0 0, .slice none 0 0, .string ⟨#[]⟩, .bool false] (World.size_alloc _ _))
 change Hid (Blk ((w.alloc (.cells #[.string (tx j.nm), .int .i64 j.t, .int .i64 j.p, .int .i64 j.k, .int .i64 j.n, .int .i64 j.f, .slice A1 j.m.length c1, .slice A2 j.b.length c2, .slice A3 j.r.length c3, .string (tx j.fd), .bool j.cb] 24)).alloc (.cells #[.string ⟨#[]⟩, .int .i64 0, .int .i64 0, .int .i64 0, .int .i64 0, .int .i64 0, .slice none 0 0, .slice none 0 0, .slice none 0 0, .string ⟨#[]⟩, .bool false] 32)) _ _) at HZ
 have HB := Lib.hid (box2 w (.cells #[.string (tx j.nm), .int .i64 j.t, .int .i64 j.p, .int .i64 j.k, .int .i64 j.n, .int .i64 j.f, .slice A1 j.m.length c1, .slice A2 j.b.length c2, .slice A3 j.r.length c3, .string (tx j.fd), .bool j.cb] 24) (.cells #[.string ⟨#[]⟩, .int .i64 0, .int .i64 0, .int .i64 0, .int .i64 0, .int .i64 0, .slice none 0 0, .slice none 0 0, .slice none 0 0, .string ⟨#[]⟩, .bool false] 32))
 go_enter Tryz.func11, Tryz.ntmps11
 go_wp2_with (fail)
 generalize (w.alloc (.cells #[.string (tx j.nm), .int .i64 j.t, .int .i64 j.p, .int .i64 j.k, .int .i64 j.n, .int .i64 j.f, .slice A1 j.m.length c1, .slice A2 j.b.length c2, .slice A3 j.r.length c3, .string (tx j.fd), .bool j.cb] 24)).alloc (.cells #[.string ⟨#[]⟩, .int .i64 0, .int .i64 0, .int .i64 0, .int .i64 0, .int .i64 0, .slice none 0 0, .slice none 0 0, .slice none 0 0, .string ⟨#[]⟩, .bool false] 32) = v at *
 obtain ⟨e0, e1, e2, e3, e4, e5, e6, e7, e8, e9, e10⟩ := elev HJ.out
 go_region_held3 (fun w' => w'.cell? ⟨w.heap.size, 0, none⟩ = some (.string (tx j.nm)) ∧ w'.cell? ⟨w.heap.size, 1, none⟩ = some (.int .i64 j.t) ∧ w'.cell? ⟨w.heap.size, 2, none⟩ = some (.int .i64 j.p) ∧ w'.cell? ⟨w.heap.size, 3, none⟩ = some (.int .i64 j.k) ∧ w'.cell? ⟨w.heap.size, 4, none⟩ = some (.int .i64 j.n) ∧ w'.cell? ⟨w.heap.size, 5, none⟩ = some (.int .i64 j.f) ∧ w'.cell? ⟨w.heap.size, 6, none⟩ = some (.slice A1 j.m.length c1) ∧ w'.cell? ⟨w.heap.size, 7, none⟩ = some (.slice A2 j.b.length c2) ∧ w'.cell? ⟨w.heap.size, 8, none⟩ = some (.slice A3 j.r.length c3) ∧ w'.cell? ⟨w.heap.size, 9, none⟩ = some (.string (tx j.fd)) ∧ w'.cell? ⟨w.heap.size, 10, none⟩ = some (.bool j.cb)) (go_keep)
  (first
  | (go_at_call 33
     refine (H3.out _ HB2.out).mono ?_
     rintro e w3 ⟨B3, d3, rfl, ho3, hb3⟩
     have HJ3 := Lib.hid (HJ2.out.next hb3); have HZ3 := Lib.hid (HZ2.out.next hb3); have HB3 := Lib.hid (Below.next HB2.out hb3)
     have HO3 := Lib.hid ho3
     have HO13 := Lib.hid (HO12.out.next hb3)
     have HO23 := Lib.hid (Nds.next (Nds.of_own HO2.out) hb3)
     clear hb3 ho3
     obtain ⟨r0, r1, r2, r3, r4, r5, r6, r7, r8, r9, r10⟩ := elev HJ3.out
     obtain ⟨z0, z1, z2, z3, z4, z5, z6, z7, z8, z9, z10⟩ := elet HZ3.out
     obtain ⟨y0, y1, y2, y3, y4, y5, y6, y7, y8, y9, y10⟩ := elev HZ3.out
     have hlt3 := HZ3.out.lt)
  | (go_at_call 33
     refine (H2.out _ HB1.out).mono ?_
     rintro e w2 ⟨B2, d2, rfl, ho2, hb2⟩
     have HJ2 := Lib.hid (HJ1.out.next hb2); have HZ2 := Lib.hid (HZ1.out.next hb2); have HB2 := Lib.hid (Below.next HB1.out hb2)
     have HO2 := Lib.hid ho2
     have HO12 := Lib.hid (Nds.next (Nds.of_own HO1.out) hb2)
     clear hb2 ho2
     obtain ⟨q0, q1, q2, q3, q4, q5, q6, q7, q8, q9, q10⟩ := elev HJ2.out)
  | (go_at_call 33
     refine (H1.out _ (below_drewN HB.out 1)).mono ?_
     rintro e w1 ⟨B1, d1, rfl, ho1, hb1⟩
     have HJ1 := Lib.hid ((HJ.out.next (below_drewN (Below.refl _ _) 1)).next hb1); have HZ1 := Lib.hid ((HZ.out.next (below_drewN (Below.refl _ _) 1)).next hb1); have HB1 := Lib.hid (Below.next (below_drewN HB.out 1) hb1)
     have HO1 := Lib.hid ho1
     clear hb1 ho1
     obtain ⟨p0, p1, p2, p3, p4, p5, p6, p7, p8, p9, p10⟩ := elev HJ1.out))
 rename_i hHd
 clear hHd
 have k1 := own_ne (b := w.heap.size + 1) HO1.out (by first | exact HZ.out.lt | (show _ < _; exact HZ.out.lt))
 have k2 := own_ne (b := w.heap.size + 1) HO2.out HZ1.out.lt
 have k3 := own_ne (b := w.heap.size + 1) HO3.out HZ2.out.lt
 have hx := blk_puts [.string (tx j.nm), .int .i64 j.t, .int .i64 j.p, .int .i64 j.k, .int .i64 j.n, .int .i64 j.f, .slice B1 j.m.length d1, .slice B2 j.b.length d2, .slice B3 j.r.length d3, .string (tx j.fd), .bool j.cb] 0 HZ3.out (Nat.le_refl 11)
 change Blk (putL w3 (w.heap.size + 1) 0 [.string (tx j.nm), .int .i64 j.t, .int .i64 j.p, .int .i64 j.k, .int .i64 j.n, .int .i64 j.f, .slice B1 j.m.length d1, .slice B2 j.b.length d2, .slice B3 j.r.length d3, .string (tx j.fd), .bool j.cb]) _ [.string (tx j.nm), .int .i64 j.t, .int .i64 j.p, .int .i64 j.k, .int .i64 j.n, .int .i64 j.f, .slice B1 j.m.length d1, .slice B2 j.b.length d2, .slice B3 j.r.length d3, .string (tx j.fd), .bool j.cb] at hx
 have hb := below_puts (B := w.heap.size + 1) [.string (tx j.nm), .int .i64 j.t, .int .i64 j.p, .int .i64 j.k, .int .i64 j.n, .int .i64 j.f, .slice B1 j.m.length d1, .slice B2 j.b.length d2, .slice B3 j.r.length d3, .string (tx j.fd), .bool j.cb] 0 HB3.out (by omega)
 have n1 := nds_puts (C := w.heap.size + 1) [.string (tx j.nm), .int .i64 j.t, .int .i64 j.p, .int .i64 j.k, .int .i64 j.n, .int .i64 j.f, .slice B1 j.m.length d1, .slice B2 j.b.length d2, .slice B3 j.r.length d3, .string (tx j.fd), .bool j.cb] 0 HO13.out k1
 have n2 := nds_puts (C := w.heap.size + 1) [.string (tx j.nm), .int .i64 j.t, .int .i64 j.p, .int .i64 j.k, .int .i64 j.n, .int .i64 j.f, .slice B1 j.m.length d1, .slice B2 j.b.length d2, .slice B3 j.r.length d3, .string (tx j.fd), .bool j.cb] 0 HO23.out k2
 have n3 := nds_puts (C := w.heap.size + 1) [.string (tx j.nm), .int .i64 j.t, .int .i64 j.p, .int .i64 j.k, .int .i64 j.n, .int .i64 j.f, .slice B1 j.m.length d1, .slice B2 j.b.length d2, .slice B3 j.r.length d3, .string (tx j.fd), .bool j.cb] 0 (Nds.of_own HO3.out) k3
 have a1 := (own_cap HO1.out).1; have a2 := (own_cap HO2.out).1; have a3 := (own_cap HO3.out).1
 clear e0 e1 e2 e3 e4 e5 e6 e7 e8 e9 e10 p0 p1 p2 p3 p4 p5 p6 p7 p8 p9 p10 q0 q1 q2 q3 q4 q5 q6 q7 q8 q9 q10 r0 r1 r2 r3 r4 r5 r6 r7 r8 r9 r10 z0 z1 z2 z3 z4 z5 z6 z7 z8 z9 z10 y0 y1 y2 y3 y4 y5 y6 y7 y8 y9 y10
 change Exit.then _ _ Exit.normal _ (putL w3 (w.heap.size + 1) 0 [.string (tx j.nm), .int .i64 j.t, .int .i64 j.p, .int .i64 j.k, .int .i64 j.n, .int .i64 j.f, .slice B1 j.m.length d1, .slice B2 j.b.length d2, .slice B3 j.r.length d3, .string (tx j.fd), .bool j.cb])
 generalize (putL w3 (w.heap.size + 1) 0 [.string (tx j.nm), .int .i64 j.t, .int .i64 j.p, .int .i64 j.k, .int .i64 j.n, .int .i64 j.f, .slice B1 j.m.length d1, .slice B2 j.b.length d2, .slice B3 j.r.length d3, .string (tx j.fd), .bool j.cb]) = w9 at *
 obtain ⟨c0, c1_, c2_, c3_, c4, c5, c6, c7, c8, c9, c10⟩ := elev hx
 go_wp2_with (fail)
 exact bodyPost_ret (v := .agg #[.string (tx j.nm), .int .i64 j.t, .int .i64 j.p, .int .i64 j.k, .int .i64 j.n, .int .i64 j.f, .slice B1 j.m.length d1, .slice B2 j.b.length d2, .slice B3 j.r.length d3, .string (tx j.fd), .bool j.cb]) (by simp [results, Tryz.results11, go_sem, c0, c1_, c2_, c3_, c4, c5, c6, c7, c8, c9, c10]) rfl ⟨B1, d1, B2, d2, B3, d3, rfl, hb, ⟨n1, n2, n3⟩, a1, a2, a3⟩
end Go.Proofs.YtimllihegnokeaaGreatDoor.Jo
namespace Go.Proofs.YtimllihegnokeaaGreatDoor.Jo
open Go.ChangeShapes Go.WideShapes Go.ChangeAt Go.RowKit Ov Va Ex
structure JF (j : Jb) : Prop where
 t : (Lit.int .i64 j.t).wf = true
 p : (Lit.int .i64 j.p).wf = true
 k : (Lit.int .i64 j.k).wf = true
 n : (Lit.int .i64 j.n).wf = true
 f : (Lit.int .i64 j.f).wf = true
 fd : j.fd.length ≤ maxLen
set_option maxRecDepth 100000 in
theorem nodes_cells {H : Type} {enc : TypeId × Value → H} {W : World} {fuel : Nat} {v : Value} {x : DataW H × List MemPlace} (hf : DataW.trod enc Tryz.prog W 0 (fun _ => true) true fuel 22 [v] = some x) :
 ∃ (p : Option Addr) (c : Nat) (l : List No), v = .slice p l.length c ∧ Nds W p l ∧ l.length ≤ maxLen := by
 have key : ∀ (p : Option Addr) (n c : Nat), v = .slice p n c → ∃ (p : Option Addr) (c : Nat) (l : List No), v = .slice p l.length c ∧ Nds W p l ∧ l.length ≤ maxLen := fun p n c e => by
  subst e
  obtain ⟨l, h1, h2, h3⟩ := nodes_of (enc := enc) (W := W) (p := p) (n := n) (c := c) (d := x.1) (ps := x.2) ⟨fuel, by simpa [Value.cells] using hf⟩
  exact ⟨p, c, l, by rw [h1], h2, by omega⟩
 rcases Go.Deep.open_slice Tryz.underlying22 hf with ⟨hcs, _⟩ | ⟨a, len, cap, m, f, D, Pl, hcs, _⟩
 · simp at hcs; exact key _ _ _ hcs
 · simp at hcs; exact key _ _ _ hcs
set_option maxRecDepth 100000 in
set_option maxHeartbeats 2000000 in
theorem job_of {H : Type} {enc : TypeId × Value → H} {W : World} {b0 : Nat} {v : Value} {d : DataW H} {ps : List MemPlace} (hv : Value.okWide Tryz.prog W .any b0 24 v) (h : DataW.Trod enc Tryz.prog W 0 (fun _ => true) true 24 v d ps) :
 ∃ (j : Jb) (A1 : Option Addr) (c1 : Nat) (A2 : Option Addr) (c2 : Nat) (A3 : Option Addr) (c3 : Nat), v = .agg #[.string (tx j.nm), .int .i64 j.t, .int .i64 j.p, .int .i64 j.k, .int .i64 j.n, .int .i64 j.f, .slice A1 j.m.length c1, .slice A2 j.b.length c2, .slice A3 j.r.length c3, .string (tx j.fd), .bool j.cb] ∧ JA W j A1 A2 A3 ∧ JF j := by
 have hC : Tryz.prog.cellsOf 24 = 11 := by kernel_rfl
 obtain ⟨cs, rfl, hsz⟩ := okWide_struct Tryz.underlying24 hv
 obtain ⟨l⟩ := cs
 match l, hsz.trans hC with
 | [a0, a1, a2, a3, a4, a5, a6, a7, a8, a9, a10], _ =>
   obtain ⟨fuel, hf⟩ := h
   obtain ⟨xs, m, _, _, _, hlen, hg⟩ := DataW.trod_struct Tryz.underlying24 hf
   match xs, hlen with
   | [y0, y1, y2, y3, y4, y5, y6, y7, y8, y9, y10], _ =>
     have g0 := hg 0 _ rfl; have g1 := hg 1 _ rfl; have g2 := hg 2 _ rfl; have g3 := hg 3 _ rfl; have g4 := hg 4 _ rfl; have g5 := hg 5 _ rfl; have g6 := hg 6 _ rfl; have g7 := hg 7 _ rfl; have g8 := hg 8 _ rfl; have g9 := hg 9 _ rfl; have g10 := hg 10 _ rfl
     clear hg
     simp only [Value.cells] at g0 g1 g2 g3 g4 g5 g6 g7 g8 g9 g10
     change DataW.trod enc Tryz.prog W 0 (fun _ => true) true m 22 [a6] = some y6 at g6
     change DataW.trod enc Tryz.prog W 0 (fun _ => true) true m 22 [a7] = some y7 at g7
     change DataW.trod enc Tryz.prog W 0 (fun _ => true) true m 22 [a8] = some y8 at g8
     obtain ⟨nm, e0, _, w0⟩ := DataW.trod_string Tryz.underlying9 g0
     obtain ⟨t, e1, _, w1⟩ := DataW.trod_int Tryz.underlying3 g1
     obtain ⟨p, e2, _, w2⟩ := DataW.trod_int Tryz.underlying3 g2
     obtain ⟨k, e3, _, w3⟩ := DataW.trod_int Tryz.underlying3 g3
     obtain ⟨n, e4, _, w4⟩ := DataW.trod_int Tryz.underlying3 g4
     obtain ⟨f, e5, _, w5⟩ := DataW.trod_int Tryz.underlying3 g5
     obtain ⟨A1, d1, l1, rfl, n1, q1⟩ := nodes_cells g6
     obtain ⟨A2, d2, l2, rfl, n2, q2⟩ := nodes_cells g7
     obtain ⟨A3, d3, l3, rfl, n3, q3⟩ := nodes_cells g8
     obtain ⟨fd, e9, _, w9⟩ := DataW.trod_string Tryz.underlying9 g9
     obtain ⟨cb, e10, _⟩ := DataW.trod_bool Tryz.underlying4 g10
     have x0 : [a0] = [Value.string nm] := e0
     have x1 : [a1] = [Value.int .i64 t] := e1
     have x2 : [a2] = [Value.int .i64 p] := e2
     have x3 : [a3] = [Value.int .i64 k] := e3
     have x4 : [a4] = [Value.int .i64 n] := e4
     have x5 : [a5] = [Value.int .i64 f] := e5
     have x9 : [a9] = [Value.string fd] := e9
     have x10 : [a10] = [Value.bool cb] := e10
     obtain rfl : a0 = .string nm := by simpa using x0
     obtain rfl : a1 = .int .i64 t := by simpa using x1
     obtain rfl : a2 = .int .i64 p := by simpa using x2
     obtain rfl : a3 = .int .i64 k := by simpa using x3
     obtain rfl : a4 = .int .i64 n := by simpa using x4
     obtain rfl : a5 = .int .i64 f := by simpa using x5
     obtain rfl : a9 = .string fd := by simpa using x9
     obtain rfl : a10 = .bool cb := by simpa using x10
     exact ⟨⟨nm.data.toList, t, p, k, n, f, l1, l2, l3, fd.data.toList, cb⟩, A1, d1, A2, d2, A3, d3, by dsimp only; rw [tx_of, tx_of], ⟨n1, n2, n3, q1, q2, q3, by simpa using w0⟩, ⟨w1, w2, w3, w4, w5, by simpa using w9⟩⟩
end Go.Proofs.YtimllihegnokeaaGreatDoor.Jo
