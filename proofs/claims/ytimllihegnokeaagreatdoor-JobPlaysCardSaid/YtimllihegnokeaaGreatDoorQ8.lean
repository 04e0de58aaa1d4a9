/-
  Small texts of this claim, together: JoLarge, JoPlays.
-/
import Derived.Test.YtimllihegnokeaaGreatDoorQJoRefW
import Derived.Deep.Cut
import Derived.Test.YtimllihegnokeaaGreatDoorQ7
import Derived.Test.YtimllihegnokeaaGreatDoorQ5
import Derived.Test.YtimllihegnokeaaGreatDoorQJoWrite
namespace Go.Proofs.YtimllihegnokeaaGreatDoor.Jo
open Go.ChangeShapes Go.WideShapes Go.ChangeAt Go.RowKit Ov Va Ex Ev
set_option maxHeartbeats 8000000 in
set_option maxRecDepth 100000 in
theorem large_any (j : Jb) (A1 : Option Addr) (c1 : Nat) (A2 : Option Addr) (c2 : Nat) (A3 : Option Addr) (c3 : Nat) (w : World) (hj : JL w j A1 A2 A3) (h0 : jr j = 0) : Calls Tryz.prog 17 #[.agg #[.string (tx j.nm), .int .i64 j.t, .int .i64 j.p, .int .i64 j.k, .int .i64 j.n, .int .i64 j.f, .slice A1 j.m.length c1, .slice A2 j.b.length c2, .slice A3 j.r.length c3, .string (tx j.fd), .bool j.cb]] w (Gives (.bool (lg j)) w) := by
 have HJL := Lib.hid hj
 have HR := Lib.hid (rt_parts h0)
 have HW := Lib.hid (fun w1 (h : Below w.heap.size w w1) => rjwrite_any j A1 c1 A2 c2 A3 c3 w1 (hj.next h) h0)
 clear hj h0
 have HJ := Lib.hid (made11 w 24 (.string (tx j.nm)) (.int .i64 j.t) (.int .i64 j.p) (.int .i64 j.k) (.int .i64 j.n) (.int .i64 j.f) (.slice A1 j.m.length c1) (.slice A2 j.b.length c2) (.slice A3 j.r.length c3) (.string (tx j.fd)) (.bool j.cb))
 have HB := Lib.hid (box1 w (.cells #[.string (tx j.nm), .int .i64 j.t, .int .i64 j.p, .int .i64 j.k, .int .i64 j.n, .int .i64 j.f, .slice A1 j.m.length c1, .slice A2 j.b.length c2, .slice A3 j.r.length c3, .string (tx j.fd), .bool j.cb] 24))
 go_enter Tryz.func17, Tryz.ntmps17
 have e6 := HJ.out.c 6 _ rfl
 go_wp2_with (fail)
 clear e6
 generalize w.alloc (.cells #[.string (tx j.nm), .int .i64 j.t, .int .i64 j.p, .int .i64 j.k, .int .i64 j.n, .int .i64 j.f, .slice A1 j.m.length c1, .slice A2 j.b.length c2, .slice A3 j.r.length c3, .string (tx j.fd), .bool j.cb] 24) = v at *
 refine (rw0 HR.out.1 (HJL.out.m.next HB.out)).mono ?_
 rintro e w1 ⟨rfl, hb⟩
 replace HJ := Lib.hid (HJ.out.next hb); replace HB := Lib.hid (Below.next HB.out hb); clear hb
 obtain ⟨n1, g1⟩ : ∃ n, (wt 25 j.m).length = n := ⟨_, rfl⟩
 have s1 : (tx (wt 25 j.m)).size = n1 := (tx_size _).trans g1
 by_cases hn1 : 4096 < n1
 · have pn1 : decide (4096 < n1) = true := decide_eq_true hn1
   have qn1 : decide ((4096 : Int) < (n1 : Int)) = true := decide_eq_true (by omega)
   have HE : Hid (lg j = true) := Lib.hid (by unfold lg big; simp [g1, hn1])
   clear hn1
   go_wp2_with (fail)
   exact bodyPost_ret (v := .bool true) (by simp [results, Tryz.results17, go_sem]) rfl ⟨by rw [HE.out], HB.out⟩
 · have pn1 : decide (4096 < n1) = false := decide_eq_false hn1
   have qn1 : decide ((4096 : Int) < (n1 : Int)) = false := decide_eq_false (by omega)
   have G1 : Hid ((wt 25 j.m).length = n1 ∧ ¬ 4096 < n1) := Lib.hid ⟨g1, hn1⟩
   clear hn1
   by_cases hb0 : j.b.length = 0
   · have j1 : decide (0 < j.b.length) = false := decide_eq_false (by omega)
     have j2 : decide ((0 : Int) < (j.b.length : Int)) = false := decide_eq_false (by omega)
     have j3 : j.b.isEmpty = true := List.isEmpty_iff.2 (List.eq_nil_of_length_eq_zero hb0)
     have J3 := Lib.hid j3; clear j3 hb0
     have e7 := HJ.out.c 7 _ rfl
     by_cases hr : j.r.length = 0
     · have i1 : decide (0 < j.r.length) = false := decide_eq_false (by omega)
       have i2 : decide ((0 : Int) < (j.r.length : Int)) = false := decide_eq_false (by omega)
       have i3 : j.r.isEmpty = true := List.isEmpty_iff.2 (List.eq_nil_of_length_eq_zero hr)
       have e8 := HJ.out.c 8 _ rfl
       have I3 := Lib.hid i3; clear i3 hr
       have e1 := HJ.out.c 1 _ rfl; have e2 := HJ.out.c 2 _ rfl; have e3 := HJ.out.c 3 _ rfl; have e4 := HJ.out.c 4 _ rfl; have e5 := HJ.out.c 5 _ rfl; have e6 := HJ.out.c 6 _ rfl; have e0 := HJ.out.c 0 _ rfl; have e9 := HJ.out.c 9 _ rfl; have e10 := HJ.out.c 10 _ rfl
       go_wp2_with (fail)
       clear e0 e1 e2 e3 e4 e5 e6 e7 e8 e9 e10
       refine (HW.out _ HB.out).mono ?_
       rintro e w2 ⟨rfl, hb⟩
       replace HJ := Lib.hid (HJ.out.next hb); replace HB := Lib.hid (Below.next HB.out hb); clear hb
       obtain ⟨n9, g9⟩ : ∃ n, (f9 j).length = n := ⟨_, rfl⟩
       have s9 : (tx (f9 j)).size = n9 := (tx_size _).trans g9
       by_cases hn9 : 4096 < n9
       · have pn9 : decide (4096 < n9) = true := decide_eq_true hn9
         have qn9 : decide ((4096 : Int) < (n9 : Int)) = true := decide_eq_true (by omega)
         have HE : Hid (lg j = true) := Lib.hid (by unfold lg big; simp [G1.out.1, G1.out.2, J3.out, I3.out, g9, hn9])
         clear hn9
         go_wp2_with (fail)
         exact bodyPost_ret (v := .bool true) (by simp [results, Tryz.results17, go_sem]) rfl ⟨by rw [HE.out], HB.out⟩
       · have pn9 : decide (4096 < n9) = false := decide_eq_false hn9
         have qn9 : decide ((4096 : Int) < (n9 : Int)) = false := decide_eq_false (by omega)
         have HE : Hid (lg j = false) := Lib.hid (by unfold lg big; simp [G1.out.1, G1.out.2, J3.out, I3.out, g9, hn9])
         clear hn9
         go_wp2_with (fail)
         exact bodyPost_ret (v := .bool false) (by simp [results, Tryz.results17, go_sem]) rfl ⟨by rw [HE.out], HB.out⟩
     · have i1 : decide (0 < j.r.length) = true := decide_eq_true (by omega)
       have i2 : decide ((0 : Int) < (j.r.length : Int)) = true := decide_eq_true (by omega)
       have i3 : j.r.isEmpty = false := by rw [Bool.eq_false_iff]; intro e; exact hr (by rw [List.isEmpty_iff.1 e]; rfl)
       have I3 := Lib.hid i3; have HX := Lib.hid (HR.out.2.2.1 hr); clear i3 hr
       have e8 := HJ.out.c 8 _ rfl
       go_wp2_with (fail)
       clear e8
       refine (rw0 HX.out (HJL.out.r.next HB.out)).mono ?_
       rintro e w3 ⟨rfl, hb⟩
       replace HJ := Lib.hid (HJ.out.next hb); replace HB := Lib.hid (Below.next HB.out hb); clear hb
       obtain ⟨n3, g3⟩ : ∃ n, (wt 25 j.r).length = n := ⟨_, rfl⟩
       have s3 : (tx (wt 25 j.r)).size = n3 := (tx_size _).trans g3
       by_cases hn3 : 4096 < n3
       · have pn3 : decide (4096 < n3) = true := decide_eq_true hn3
         have qn3 : decide ((4096 : Int) < (n3 : Int)) = true := decide_eq_true (by omega)
         have HE : Hid (lg j = true) := Lib.hid (by unfold lg big; simp [G1.out.1, G1.out.2, J3.out, I3.out, g3, hn3])
         clear hn3
         go_wp2_with (fail)
         exact bodyPost_ret (v := .bool true) (by simp [results, Tryz.results17, go_sem]) rfl ⟨by rw [HE.out], HB.out⟩
       · have pn3 : decide (4096 < n3) = false := decide_eq_false hn3
         have qn3 : decide ((4096 : Int) < (n3 : Int)) = false := decide_eq_false (by omega)
         have G3 : Hid ((wt 25 j.r).length = n3 ∧ ¬ 4096 < n3) := Lib.hid ⟨g3, hn3⟩
         clear hn3
         obtain ⟨e0, e1, e2, e3, e4, e5, e6, e7, e8, e9, e10⟩ := elev HJ.out
         go_wp2_with (fail)
         clear e0 e1 e2 e3 e4 e5 e6 e7 e8 e9 e10
         refine (HW.out _ HB.out).mono ?_
         rintro e w4 ⟨rfl, hb⟩
         replace HJ := Lib.hid (HJ.out.next hb); replace HB := Lib.hid (Below.next HB.out hb); clear hb
         obtain ⟨n9, g9⟩ : ∃ n, (f9 j).length = n := ⟨_, rfl⟩
         have s9 : (tx (f9 j)).size = n9 := (tx_size _).trans g9
         by_cases hn9 : 4096 < n9
         · have pn9 : decide (4096 < n9) = true := decide_eq_true hn9
           have qn9 : decide ((4096 : Int) < (n9 : Int)) = true := decide_eq_true (by omega)
           have HE : Hid (lg j = true) := Lib.hid (by unfold lg big; simp [G1.out.1, G1.out.2, J3.out, I3.out, G3.out.1, G3.out.2, g9, hn9])
           clear hn9
           go_wp2_with (fail)
           exact bodyPost_ret (v := .bool true) (by simp [results, Tryz.results17, go_sem]) rfl ⟨by rw [HE.out], HB.out⟩
         · have pn9 : decide (4096 < n9) = false := decide_eq_false hn9
           have qn9 : decide ((4096 : Int) < (n9 : Int)) = false := decide_eq_false (by omega)
           have HE : Hid (lg j = false) := Lib.hid (by unfold lg big; simp [G1.out.1, G1.out.2, J3.out, I3.out, G3.out.1, G3.out.2, g9, hn9])
           clear hn9
           go_wp2_with (fail)
           exact bodyPost_ret (v := .bool false) (by simp [results, Tryz.results17, go_sem]) rfl ⟨by rw [HE.out], HB.out⟩
   · have j1 : decide (0 < j.b.length) = true := decide_eq_true (by omega)
     have j2 : decide ((0 : Int) < (j.b.length : Int)) = true := decide_eq_true (by omega)
     have j3 : j.b.isEmpty = false := by rw [Bool.eq_false_iff]; intro e; exact hb0 (by rw [List.isEmpty_iff.1 e]; rfl)
     have J3 := Lib.hid j3; have HX := Lib.hid (HR.out.2.1 hb0); clear j3 hb0
     have e7 := HJ.out.c 7 _ rfl
     go_wp2_with (fail)
     clear e7
     refine (rw0 HX.out (HJL.out.b.next HB.out)).mono ?_
     rintro e w5 ⟨rfl, hb⟩
     replace HJ := Lib.hid (HJ.out.next hb); replace HB := Lib.hid (Below.next HB.out hb); clear hb
     obtain ⟨n2, g2⟩ : ∃ n, (wt 25 j.b).length = n := ⟨_, rfl⟩
     have s2 : (tx (wt 25 j.b)).size = n2 := (tx_size _).trans g2
     by_cases hn2 : 4096 < n2
     · have pn2 : decide (4096 < n2) = true := decide_eq_true hn2
       have qn2 : decide ((4096 : Int) < (n2 : Int)) = true := decide_eq_true (by omega)
       have HE : Hid (lg j = true) := Lib.hid (by unfold lg big; simp [G1.out.1, G1.out.2, J3.out, g2, hn2])
       clear hn2
       go_wp2_with (fail)
       exact bodyPost_ret (v := .bool true) (by simp [results, Tryz.results17, go_sem]) rfl ⟨by rw [HE.out], HB.out⟩
     · have pn2 : decide (4096 < n2) = false := decide_eq_false hn2
       have qn2 : decide ((4096 : Int) < (n2 : Int)) = false := decide_eq_false (by omega)
       have G2 : Hid ((wt 25 j.b).length = n2 ∧ ¬ 4096 < n2) := Lib.hid ⟨g2, hn2⟩
       clear hn2
       by_cases hr : j.r.length = 0
       · have i1 : decide (0 < j.r.length) = false := decide_eq_false (by omega)
         have i2 : decide ((0 : Int) < (j.r.length : Int)) = false := decide_eq_false (by omega)
         have i3 : j.r.isEmpty = true := List.isEmpty_iff.2 (List.eq_nil_of_length_eq_zero hr)
         have e8 := HJ.out.c 8 _ rfl
         have I3 := Lib.hid i3; clear i3 hr
         have e1 := HJ.out.c 1 _ rfl; have e2 := HJ.out.c 2 _ rfl; have e3 := HJ.out.c 3 _ rfl; have e4 := HJ.out.c 4 _ rfl; have e5 := HJ.out.c 5 _ rfl; have e6 := HJ.out.c 6 _ rfl; have e7 := HJ.out.c 7 _ rfl; have e0 := HJ.out.c 0 _ rfl; have e9 := HJ.out.c 9 _ rfl; have e10 := HJ.out.c 10 _ rfl
         go_wp2_with (fail)
         clear e0 e1 e2 e3 e4 e5 e6 e7 e8 e9 e10
         refine (HW.out _ HB.out).mono ?_
         rintro e w6 ⟨rfl, hb⟩
         replace HJ := Lib.hid (HJ.out.next hb); replace HB := Lib.hid (Below.next HB.out hb); clear hb
         obtain ⟨n9, g9⟩ : ∃ n, (f9 j).length = n := ⟨_, rfl⟩
         have s9 : (tx (f9 j)).size = n9 := (tx_size _).trans g9
         by_cases hn9 : 4096 < n9
         · have pn9 : decide (4096 < n9) = true := decide_eq_true hn9
           have qn9 : decide ((4096 : Int) < (n9 : Int)) = true := decide_eq_true (by omega)
           have HE : Hid (lg j = true) := Lib.hid (by unfold lg big; simp [G1.out.1, G1.out.2, J3.out, G2.out.1, G2.out.2, I3.out, g9, hn9])
           clear hn9
           go_wp2_with (fail)
           exact bodyPost_ret (v := .bool true) (by simp [results, Tryz.results17, go_sem]) rfl ⟨by rw [HE.out], HB.out⟩
         · have pn9 : decide (4096 < n9) = false := decide_eq_false hn9
           have qn9 : decide ((4096 : Int) < (n9 : Int)) = false := decide_eq_false (by omega)
           have HE : Hid (lg j = false) := Lib.hid (by unfold lg big; simp [G1.out.1, G1.out.2, J3.out, G2.out.1, G2.out.2, I3.out, g9, hn9])
           clear hn9
           go_wp2_with (fail)
           exact bodyPost_ret (v := .bool false) (by simp [results, Tryz.results17, go_sem]) rfl ⟨by rw [HE.out], HB.out⟩
       · have i1 : decide (0 < j.r.length) = true := decide_eq_true (by omega)
         have i2 : decide ((0 : Int) < (j.r.length : Int)) = true := decide_eq_true (by omega)
         have i3 : j.r.isEmpty = false := by rw [Bool.eq_false_iff]; intro e; exact hr (by rw [List.isEmpty_iff.1 e]; rfl)
         have I3 := Lib.hid i3; have HX := Lib.hid (HR.out.2.2.1 hr); clear i3 hr
         have e8 := HJ.out.c 8 _ rfl
         go_wp2_with (fail)
         clear e8
         refine (rw0 HX.out (HJL.out.r.next HB.out)).mono ?_
         rintro e w7 ⟨rfl, hb⟩
         replace HJ := Lib.hid (HJ.out.next hb); replace HB := Lib.hid (Below.next HB.out hb); clear hb
         obtain ⟨n3, g3⟩ : ∃ n, (wt 25 j.r).length = n := ⟨_, rfl⟩
         have s3 : (tx (wt 25 j.r)).size = n3 := (tx_size _).trans g3
         by_cases hn3 : 4096 < n3
         · have pn3 : decide (4096 < n3) = true := decide_eq_true hn3
           have qn3 : decide ((4096 : Int) < (n3 : Int)) = true := decide_eq_true (by omega)
           have HE : Hid (lg j = true) := Lib.hid (by unfold lg big; simp [G1.out.1, G1.out.2, J3.out, G2.out.1, G2.out.2, I3.out, g3, hn3])
           clear hn3
           go_wp2_with (fail)
           exact bodyPost_ret (v := .bool true) (by simp [results, Tryz.results17, go_sem]) rfl ⟨by rw [HE.out], HB.out⟩
         · have pn3 : decide (4096 < n3) = false := decide_eq_false hn3
           have qn3 : decide ((4096 : Int) < (n3 : Int)) = false := decide_eq_false (by omega)
           have G3 : Hid ((wt 25 j.r).length = n3 ∧ ¬ 4096 < n3) := Lib.hid ⟨g3, hn3⟩
           clear hn3
           obtain ⟨e0, e1, e2, e3, e4, e5, e6, e7, e8, e9, e10⟩ := elev HJ.out
           go_wp2_with (fail)
           clear e0 e1 e2 e3 e4 e5 e6 e7 e8 e9 e10
           refine (HW.out _ HB.out).mono ?_
           rintro e w8 ⟨rfl, hb⟩
           replace HJ := Lib.hid (HJ.out.next hb); replace HB := Lib.hid (Below.next HB.out hb); clear hb
           obtain ⟨n9, g9⟩ : ∃ n, (f9 j).length = n := ⟨_, rfl⟩
           have s9 : (tx (f9 j)).size = n9 := (tx_size _).trans g9
           by_cases hn9 : 4096 < n9
           · have pn9 : decide (4096 < n9) = true := decide_eq_true hn9
             have qn9 : decide ((4096 : Int) < (n9 : Int)) = true := decide_eq_true (by omega)
             have HE : Hid (lg j = true) := Lib.hid (by unfold lg big; simp [G1.out.1, G1.out.2, J3.out, G2.out.1, G2.out.2, I3.out, G3.out.1, G3.out.2, g9, hn9])
             clear hn9
             go_wp2_with (fail)
             exact bodyPost_ret (v := .bool true) (by simp [results, Tryz.results17, go_sem]) rfl ⟨by rw [HE.out], HB.out⟩
           · have pn9 : decide (4096 < n9) = false := decide_eq_false hn9
             have qn9 : decide ((4096 : Int) < (n9 : Int)) = false := decide_eq_false (by omega)
             have HE : Hid (lg j = false) := Lib.hid (by unfold lg big; simp [G1.out.1, G1.out.2, J3.out, G2.out.1, G2.out.2, I3.out, G3.out.1, G3.out.2, g9, hn9])
             clear hn9
             go_wp2_with (fail)
             exact bodyPost_ret (v := .bool false) (by simp [results, Tryz.results17, go_sem]) rfl ⟨by rw [HE.out], HB.out⟩
set_option maxHeartbeats 4000000 in
set_option maxRecDepth 100000 in
theorem plays_core (j : Jb) (A1 : Option Addr) (c1 : Nat) (A2 : Option Addr) (c2 : Nat) (A3 : Option Addr) (c3 : Nat) (w : World) (hj : JA w j A1 A2 A3) (hT : Tab w) (hK : KM w) (hF : JF j) : Calls Tryz.prog 5 #[.agg #[.string (tx j.nm), .int .i64 j.t, .int .i64 j.p, .int .i64 j.k, .int .i64 j.n, .int .i64 j.f, .slice A1 j.m.length c1, .slice A2 j.b.length c2, .slice A3 j.r.length c3, .string (tx j.fd), .bool j.cb]] w (Gives (.bool true) w) := by
 have HS := Lib.hid (fun w1 (h : Below w.heap.size w w1) => small_any j A1 c1 A2 c2 A3 c3 w1 (hj.next h))
 have HJA := Lib.hid hj; have HT := Lib.hid hT; have HK := Lib.hid hK; have HF := Lib.hid hF
 clear hj hT hK hF
 have HJ := Lib.hid (made11 w 24 (.string (tx j.nm)) (.int .i64 j.t) (.int .i64 j.p) (.int .i64 j.k) (.int .i64 j.n) (.int .i64 j.f) (.slice A1 j.m.length c1) (.slice A2 j.b.length c2) (.slice A3 j.r.length c3) (.string (tx j.fd)) (.bool j.cb))
 have HB := Lib.hid (box1 w (.cells #[.string (tx j.nm), .int .i64 j.t, .int .i64 j.p, .int .i64 j.k, .int .i64 j.n, .int .i64 j.f, .slice A1 j.m.length c1, .slice A2 j.b.length c2, .slice A3 j.r.length c3, .string (tx j.fd), .bool j.cb] 24))
 go_enter Tryz.func5, Tryz.ntmps5
 go_wp2_with (fail)
 generalize w.alloc (.cells #[.string (tx j.nm), .int .i64 j.t, .int .i64 j.p, .int .i64 j.k, .int .i64 j.n, .int .i64 j.f, .slice A1 j.m.length c1, .slice A2 j.b.length c2, .slice A3 j.r.length c3, .string (tx j.fd), .bool j.cb] 24) = v at *
 refine (awake_any _).mono ?_
 rintro e a1 ⟨rfl, hb⟩
 replace HJ := Lib.hid (HJ.out.next hb); replace HB := Lib.hid (Below.next HB.out hb); clear hb
 obtain ⟨e0, e1, e2, e3, e4, e5, e6, e7, e8, e9, e10⟩ := elev HJ.out
 go_wp2_with (fail)
 clear e0 e1 e2 e3 e4 e5 e6 e7 e8 e9 e10
 refine (HS.out _ HB.out).mono ?_
 rintro e a2 ⟨q, rfl, hb, hq⟩
 replace HJ := Lib.hid (HJ.out.next hb); replace HB := Lib.hid (Below.next HB.out hb); clear hb
 rcases hq with rfl | ⟨rfl, hsm⟩
 · go_wp2_with (fail)
   refine (awake_any _).mono ?_
   rintro e a3 ⟨rfl, hb⟩
   replace HJ := Lib.hid (HJ.out.next hb); replace HB := Lib.hid (Below.next HB.out hb); clear hb
   go_wp2_with (fail)
   go_ret
   exact ⟨rfl, HB.out⟩
 have HM := Lib.hid hsm
 have HO := Lib.hid (fun w1 (h : Below w.heap.size w w1) => jof_any j A1 c1 A2 c2 A3 c3 w1 (HJA.out.next h) hsm)
 have HL0 := Lib.hid (fun w1 (h : Below w.heap.size w w1) => (HJA.out.next h).small hsm)
 clear hsm HS
 have HRR := Lib.hid (fun w1 (h : Below w.heap.size w w1) => rright_any j A1 c1 A2 c2 A3 c3 w1 (HL0.out w1 h) (by have := HM.out.nm; omega))
 have HR : Hid (∀ (B1 : Option Addr) (d1 : Nat) (B2 : Option Addr) (d2 : Nat) (B3 : Option Addr) (d3 : Nat) (w1 : World), JL w1 j B1 B2 B3 → Below w.heap.size w w1 → Calls Tryz.prog 12 #[.agg #[.string (tx j.nm), .int .i64 j.t, .int .i64 j.p, .int .i64 j.k, .int .i64 j.n, .int .i64 j.f, .slice B1 j.m.length d1, .slice B2 j.b.length d2, .slice B3 j.r.length d3, .string (tx j.fd), .bool j.cb]] w1 (Gives (.int .i64 (jr j)) w1)) := Lib.hid fun B1 d1 B2 d2 B3 d3 w1 hl hb => right_any j B1 d1 B2 d2 B3 d3 w1 hl (HK.out.next hb) (by have := HM.out.nm; omega)
 have HW : Hid (∀ (B1 : Option Addr) (d1 : Nat) (B2 : Option Addr) (d2 : Nat) (B3 : Option Addr) (d3 : Nat) (w1 : World), JL w1 j B1 B2 B3 → Below w.heap.size w w1 → j.m.length ≤ d1 → j.b.length ≤ d2 → j.r.length ≤ d3 → Calls Tryz.prog 10 #[.agg #[.string (tx j.nm), .int .i64 j.t, .int .i64 j.p, .int .i64 j.k, .int .i64 j.n, .int .i64 j.f, .slice B1 j.m.length d1, .slice B2 j.b.length d2, .slice B3 j.r.length d3, .string (tx j.fd), .bool j.cb]] w1 (Gives (.tuple #[.string (tx (jwq j).1), .int .i64 (jwq j).2]) w1)) := Lib.hid fun B1 d1 B2 d2 B3 d3 w1 hl hb k1 k2 k3 => jwrite_any j B1 d1 B2 d2 B3 d3 w1 hl (HK.out.next hb) (HT.out.next hb) (by have := HM.out.nm; omega) k1 k2 k3
 by_cases h0 : jr j = 0
 · have HLG := Lib.hid (fun w1 (h : Below w.heap.size w w1) => large_any j A1 c1 A2 c2 A3 c3 w1 (HL0.out w1 h) h0)
   have HRW := Lib.hid (fun w1 (h : Below w.heap.size w w1) => rjwrite_any j A1 c1 A2 c2 A3 c3 w1 (HL0.out w1 h) h0)
   have hq := jwq_full h0
   rw [h0] at HR HRR
   clear h0
   cases hlg : lg j
   · rw [hlg, if_neg (by decide)] at hq
     rw [hlg] at HLG
     rw [hq] at HW
     clear hq hlg
     obtain ⟨e0, e1, e2, e3, e4, e5, e6, e7, e8, e9, e10⟩ := elev HJ.out
     go_wp2_with (fail)
     clear e0 e1 e2 e3 e4 e5 e6 e7 e8 e9 e10
     refine (HRR.out _ HB.out).mono ?_
     rintro e a3 ⟨rfl, hb⟩
     replace HJ := Lib.hid (HJ.out.next hb); replace HB := Lib.hid (Below.next HB.out hb); clear hb
     obtain ⟨e0, e1, e2, e3, e4, e5, e6, e7, e8, e9, e10⟩ := elev HJ.out
     go_wp2_with (fail)
     clear e0 e1 e2 e3 e4 e5 e6 e7 e8 e9 e10
     refine (HO.out _ HB.out).mono ?_
     rintro e a4 ⟨B1, d1, B2, d2, B3, d3, rfl, hb, ⟨n1, n2, n3⟩, k1, k2, k3⟩
     have HL := Lib.hid (show JL a4 j B1 B2 B3 from ⟨n1, n2, n3, (HJA.out.small HM.out).lm, (HJA.out.small HM.out).lb, (HJA.out.small HM.out).lr⟩)
     clear n1 n2 n3
     replace HJ := Lib.hid (HJ.out.next hb); replace HB := Lib.hid (Below.next HB.out hb); clear hb
     have K1 := Lib.hid k1; have K2 := Lib.hid k2; have K3 := Lib.hid k3
     clear k1 k2 k3
     go_wp2_with (fail)
     refine (HW.out _ _ _ _ _ _ _ HL.out HB.out K1.out K2.out K3.out).mono ?_
     rintro e a5 ⟨rfl, hb⟩
     clear HL K1 K2 K3
     replace HJ := Lib.hid (HJ.out.next hb); replace HB := Lib.hid (Below.next HB.out hb); clear hb
     obtain ⟨e0, e1, e2, e3, e4, e5, e6, e7, e8, e9, e10⟩ := elev HJ.out
     go_wp2_with (fail)
     clear e0 e1 e2 e3 e4 e5 e6 e7 e8 e9 e10
     refine (HO.out _ HB.out).mono ?_
     rintro e a6 ⟨B1, d1, B2, d2, B3, d3, rfl, hb, ⟨n1, n2, n3⟩, k1, k2, k3⟩
     have HL := Lib.hid (show JL a6 j B1 B2 B3 from ⟨n1, n2, n3, (HJA.out.small HM.out).lm, (HJA.out.small HM.out).lb, (HJA.out.small HM.out).lr⟩)
     clear n1 n2 n3
     replace HJ := Lib.hid (HJ.out.next hb); replace HB := Lib.hid (Below.next HB.out hb); clear hb
     clear k1 k2 k3
     go_wp2_with (fail)
     refine (HR.out _ _ _ _ _ _ _ HL.out HB.out).mono ?_
     rintro e a7 ⟨rfl, hb⟩
     clear HL
     replace HJ := Lib.hid (HJ.out.next hb); replace HB := Lib.hid (Below.next HB.out hb); clear hb
     obtain ⟨e0, e1, e2, e3, e4, e5, e6, e7, e8, e9, e10⟩ := elev HJ.out
     go_wp2_with (fail)
     clear e0 e1 e2 e3 e4 e5 e6 e7 e8 e9 e10
     refine (HLG.out _ HB.out).mono ?_
     rintro e a8 ⟨rfl, hb⟩
     replace HJ := Lib.hid (HJ.out.next hb); replace HB := Lib.hid (Below.next HB.out hb); clear hb
     obtain ⟨e0, e1, e2, e3, e4, e5, e6, e7, e8, e9, e10⟩ := elev HJ.out
     go_wp2_with (fail)
     clear e0 e1 e2 e3 e4 e5 e6 e7 e8 e9 e10
     refine (HRW.out _ HB.out).mono ?_
     rintro e a9 ⟨rfl, hb⟩
     replace HJ := Lib.hid (HJ.out.next hb); replace HB := Lib.hid (Below.next HB.out hb); clear hb
     go_wp2_with (fail)
     exact bodyPost_ret (v := .bool true) (by simp [results, Tryz.results5, go_sem]) rfl ⟨rfl, HB.out⟩
   · rw [hlg, if_pos rfl] at hq
     rw [hlg] at HLG
     rw [hq] at HW
     clear hq hlg HRW
     have htn : (tx []).toList = ([] : List UInt8) := by rw [ByteArray.toList_eq]; rfl
     obtain ⟨e0, e1, e2, e3, e4, e5, e6, e7, e8, e9, e10⟩ := elev HJ.out
     go_wp2_with (fail)
     clear e0 e1 e2 e3 e4 e5 e6 e7 e8 e9 e10
     refine (HRR.out _ HB.out).mono ?_
     rintro e a3 ⟨rfl, hb⟩
     replace HJ := Lib.hid (HJ.out.next hb); replace HB := Lib.hid (Below.next HB.out hb); clear hb
     obtain ⟨e0, e1, e2, e3, e4, e5, e6, e7, e8, e9, e10⟩ := elev HJ.out
     go_wp2_with (fail)
     clear e0 e1 e2 e3 e4 e5 e6 e7 e8 e9 e10
     refine (HO.out _ HB.out).mono ?_
     rintro e a4 ⟨B1, d1, B2, d2, B3, d3, rfl, hb, ⟨n1, n2, n3⟩, k1, k2, k3⟩
     have HL := Lib.hid (show JL a4 j B1 B2 B3 from ⟨n1, n2, n3, (HJA.out.small HM.out).lm, (HJA.out.small HM.out).lb, (HJA.out.small HM.out).lr⟩)
     clear n1 n2 n3
     replace HJ := Lib.hid (HJ.out.next hb); replace HB := Lib.hid (Below.next HB.out hb); clear hb
     have K1 := Lib.hid k1; have K2 := Lib.hid k2; have K3 := Lib.hid k3
     clear k1 k2 k3
     go_wp2_with (fail)
     refine (HW.out _ _ _ _ _ _ _ HL.out HB.out K1.out K2.out K3.out).mono ?_
     rintro e a5 ⟨rfl, hb⟩
     clear HL K1 K2 K3
     replace HJ := Lib.hid (HJ.out.next hb); replace HB := Lib.hid (Below.next HB.out hb); clear hb
     obtain ⟨e0, e1, e2, e3, e4, e5, e6, e7, e8, e9, e10⟩ := elev HJ.out
     go_wp2_with (fail)
     clear e0 e1 e2 e3 e4 e5 e6 e7 e8 e9 e10
     refine (HO.out _ HB.out).mono ?_
     rintro e a6 ⟨B1, d1, B2, d2, B3, d3, rfl, hb, ⟨n1, n2, n3⟩, k1, k2, k3⟩
     have HL := Lib.hid (show JL a6 j B1 B2 B3 from ⟨n1, n2, n3, (HJA.out.small HM.out).lm, (HJA.out.small HM.out).lb, (HJA.out.small HM.out).lr⟩)
     clear n1 n2 n3
     replace HJ := Lib.hid (HJ.out.next hb); replace HB := Lib.hid (Below.next HB.out hb); clear hb
     clear k1 k2 k3
     go_wp2_with (fail)
     refine (HR.out _ _ _ _ _ _ _ HL.out HB.out).mono ?_
     rintro e a7 ⟨rfl, hb⟩
     clear HL
     replace HJ := Lib.hid (HJ.out.next hb); replace HB := Lib.hid (Below.next HB.out hb); clear hb
     obtain ⟨e0, e1, e2, e3, e4, e5, e6, e7, e8, e9, e10⟩ := elev HJ.out
     go_wp2_with (fail)
     clear e0 e1 e2 e3 e4 e5 e6 e7 e8 e9 e10
     refine (HLG.out _ HB.out).mono ?_
     rintro e a8 ⟨rfl, hb⟩
     replace HJ := Lib.hid (HJ.out.next hb); replace HB := Lib.hid (Below.next HB.out hb); clear hb
     go_wp2_with (fail)
     exact bodyPost_ret (v := .bool true) (by simp [results, Tryz.results5, go_sem]) rfl ⟨rfl, HB.out⟩
 · obtain ⟨x, hx⟩ : ∃ x, jr j = x := ⟨_, rfl⟩
   rw [show jwq j = ([], x) from (if_pos h0).trans (by rw [hx])] at HW
   have hne : (x == 0) = false := beq_eq_false_iff_ne.2 (by rw [← hx]; exact h0)
   rw [hx] at HR HRR
   clear h0 hx
   have htn : (tx []).toList = ([] : List UInt8) := by rw [ByteArray.toList_eq]; rfl
   obtain ⟨e0, e1, e2, e3, e4, e5, e6, e7, e8, e9, e10⟩ := elev HJ.out
   go_wp2_with (fail)
   clear e0 e1 e2 e3 e4 e5 e6 e7 e8 e9 e10
   refine (HRR.out _ HB.out).mono ?_
   rintro e a3 ⟨rfl, hb⟩
   replace HJ := Lib.hid (HJ.out.next hb); replace HB := Lib.hid (Below.next HB.out hb); clear hb
   obtain ⟨e0, e1, e2, e3, e4, e5, e6, e7, e8, e9, e10⟩ := elev HJ.out
   go_wp2_with (fail)
   clear e0 e1 e2 e3 e4 e5 e6 e7 e8 e9 e10
   refine (HO.out _ HB.out).mono ?_
   rintro e a4 ⟨B1, d1, B2, d2, B3, d3, rfl, hb, ⟨n1, n2, n3⟩, k1, k2, k3⟩
   have HL := Lib.hid (show JL a4 j B1 B2 B3 from ⟨n1, n2, n3, (HJA.out.small HM.out).lm, (HJA.out.small HM.out).lb, (HJA.out.small HM.out).lr⟩)
   clear n1 n2 n3
   replace HJ := Lib.hid (HJ.out.next hb); replace HB := Lib.hid (Below.next HB.out hb); clear hb
   have K1 := Lib.hid k1; have K2 := Lib.hid k2; have K3 := Lib.hid k3
   clear k1 k2 k3
   go_wp2_with (fail)
   refine (HW.out _ _ _ _ _ _ _ HL.out HB.out K1.out K2.out K3.out).mono ?_
   rintro e a5 ⟨rfl, hb⟩
   clear HL K1 K2 K3
   replace HJ := Lib.hid (HJ.out.next hb); replace HB := Lib.hid (Below.next HB.out hb); clear hb
   obtain ⟨e0, e1, e2, e3, e4, e5, e6, e7, e8, e9, e10⟩ := elev HJ.out
   go_wp2_with (fail)
   clear e0 e1 e2 e3 e4 e5 e6 e7 e8 e9 e10
   refine (HO.out _ HB.out).mono ?_
   rintro e a6 ⟨B1, d1, B2, d2, B3, d3, rfl, hb, ⟨n1, n2, n3⟩, k1, k2, k3⟩
   have HL := Lib.hid (show JL a6 j B1 B2 B3 from ⟨n1, n2, n3, (HJA.out.small HM.out).lm, (HJA.out.small HM.out).lb, (HJA.out.small HM.out).lr⟩)
   clear n1 n2 n3
   replace HJ := Lib.hid (HJ.out.next hb); replace HB := Lib.hid (Below.next HB.out hb); clear hb
   clear k1 k2 k3
   go_wp2_with (fail)
   refine (HR.out _ _ _ _ _ _ _ HL.out HB.out).mono ?_
   rintro e a7 ⟨rfl, hb⟩
   clear HL
   replace HJ := Lib.hid (HJ.out.next hb); replace HB := Lib.hid (Below.next HB.out hb); clear hb
   go_wp2_with (fail)
   exact bodyPost_ret (v := .bool true) (by simp [results, Tryz.results5, go_sem]) rfl ⟨rfl, HB.out⟩
end Go.Proofs.YtimllihegnokeaaGreatDoor.Jo
