/-
  A text of this claim: JoBackW.
-/
import Derived.Test.YtimllihegnokeaaGreatDoorQ9
import Derived.Test.YtimllihegnokeaaGreatDoorQJoBackP
import Derived.Test.YtimllihegnokeaaGreatDoorQ5
import Derived.Test.YtimllihegnokeaaGreatDoorQJoWrite
import Derived.Deep.Cut
import Derived.Deep.RegionHeld3
namespace Go.Proofs.YtimllihegnokeaaGreatDoor.Jo
open Go.ChangeShapes Go.WideShapes Go.ChangeAt Go.RowKit Ov Va Ex Ev
set_option maxHeartbeats 8000000 in
set_option maxRecDepth 100000 in
theorem back2_core (j : Jb) (A1 : Option Addr) (c1 : Nat) (A2 : Option Addr) (c2 : Nat) (A3 : Option Addr) (c3 : Nat) (w : World) (hj : JA w j A1 A2 A3) (hT : Tab w) (hK : KM w) : Calls Tryz.prog 3 #[.agg #[.string (tx j.nm), .int .i64 j.t, .int .i64 j.p, .int .i64 j.k, .int .i64 j.n, .int .i64 j.f, .slice A1 j.m.length c1, .slice A2 j.b.length c2, .slice A3 j.r.length c3, .string (tx j.fd), .bool j.cb]] w (Gives (.bool true) w) := by
 have HS := Lib.hid (fun w1 (h : Below w.heap.size w w1) => small_any j A1 c1 A2 c2 A3 c3 w1 (hj.next h))
 have HJA := Lib.hid hj; have HT := Lib.hid hT; have HK := Lib.hid hK
 clear hj hT hK
 have HJ := Lib.hid (made11 w 24 (.string (tx j.nm)) (.int .i64 j.t) (.int .i64 j.p) (.int .i64 j.k) (.int .i64 j.n) (.int .i64 j.f) (.slice A1 j.m.length c1) (.slice A2 j.b.length c2) (.slice A3 j.r.length c3) (.string (tx j.fd)) (.bool j.cb))
 have HB := Lib.hid (box1 w (.cells #[.string (tx j.nm), .int .i64 j.t, .int .i64 j.p, .int .i64 j.k, .int .i64 j.n, .int .i64 j.f, .slice A1 j.m.length c1, .slice A2 j.b.length c2, .slice A3 j.r.length c3, .string (tx j.fd), .bool j.cb] 24))
 go_enter Tryz.func3, Tryz.ntmps3
 go_wp2_with (fail)
 generalize w.alloc (.cells #[.string (tx j.nm), .int .i64 j.t, .int .i64 j.p, .int .i64 j.k, .int .i64 j.n, .int .i64 j.f, .slice A1 j.m.length c1, .slice A2 j.b.length c2, .slice A3 j.r.length c3, .string (tx j.fd), .bool j.cb] 24) = v at *
 refine (awake_any _).mono ?_
 rintro e a1 ⟨rfl, hb⟩
 replace HJ := Lib.hid (HJ.out.next hb); replace HB := Lib.hid (Below.next HB.out hb); clear hb
 obtain ⟨e0, e1, e2, e3, e4, e5, e6, e7, e8, e9, e10⟩ := elev HJ.out
 go_wp2_with (fail)
 clear e0 e1 e2 e3 e4 e5 e6 e7 e8 e9 e10
 refine (HS.out _ HB.out).mono ?_
 rintro e a2 ⟨q, rfl, hb, hq⟩
 replace HJ := Lib.hid (HJ.out.next hb); replace HB := Lib.hid (Below.next HB.out hb); clear hb
 rcases hq with rfl | ⟨rfl, hsm⟩
 · go_wp2_with (fail)
   refine (awake_any _).mono ?_
   rintro e a3 ⟨rfl, hb⟩
   replace HJ := Lib.hid (HJ.out.next hb); replace HB := Lib.hid (Below.next HB.out hb); clear hb
   go_wp2_with (fail)
   exact bodyPost_ret (v := .bool true) (by simp [results, Tryz.results3, go_sem]) rfl ⟨rfl, HB.out⟩
 have HM := Lib.hid hsm
 have HO := Lib.hid (fun w1 (h : Below w.heap.size w w1) => jof_any j A1 c1 A2 c2 A3 c3 w1 (HJA.out.next h) hsm)
 have HL0 := Lib.hid (fun w1 (h : Below w.heap.size w w1) => (HJA.out.next h).small hsm)
 clear hsm HS
 have HR : Hid (∀ (B1 : Option Addr) (d1 : Nat) (B2 : Option Addr) (d2 : Nat) (B3 : Option Addr) (d3 : Nat) (w1 : World), JL w1 j B1 B2 B3 → Below w.heap.size w w1 → Calls Tryz.prog 12 #[.agg #[.string (tx j.nm), .int .i64 j.t, .int .i64 j.p, .int .i64 j.k, .int .i64 j.n, .int .i64 j.f, .slice B1 j.m.length d1, .slice B2 j.b.length d2, .slice B3 j.r.length d3, .string (tx j.fd), .bool j.cb]] w1 (Gives (.int .i64 (jr j)) w1)) := Lib.hid fun B1 d1 B2 d2 B3 d3 w1 hl hb => right_any j B1 d1 B2 d2 B3 d3 w1 hl (HK.out.next hb) (by have := HM.out.nm; omega)
 have HW : Hid (∀ (B1 : Option Addr) (d1 : Nat) (B2 : Option Addr) (d2 : Nat) (B3 : Option Addr) (d3 : Nat) (w1 : World), JL w1 j B1 B2 B3 → Below w.heap.size w w1 → j.m.length ≤ d1 → j.b.length ≤ d2 → j.r.length ≤ d3 → Calls Tryz.prog 10 #[.agg #[.string (tx j.nm), .int .i64 j.t, .int .i64 j.p, .int .i64 j.k, .int .i64 j.n, .int .i64 j.f, .slice B1 j.m.length d1, .slice B2 j.b.length d2, .slice B3 j.r.length d3, .string (tx j.fd), .bool j.cb]] w1 (Gives (.tuple #[.string (tx (jwq j).1), .int .i64 (jwq j).2]) w1)) := Lib.hid fun B1 d1 B2 d2 B3 d3 w1 hl hb k1 k2 k3 => jwrite_any j B1 d1 B2 d2 B3 d3 w1 hl (HK.out.next hb) (HT.out.next hb) (by have := HM.out.nm; omega) k1 k2 k3
 by_cases h0 : jr j = 0
 · have hq := jwq_full h0
   rw [h0] at HR
   clear h0
   cases hlg : lg j
   · rw [hlg, if_neg (by decide)] at hq
     rw [hq] at HW
     have hbk := pj_back hq
     have hl9 : (f9 j).length ≤ 4096 := by
      unfold lg at hlg
      simp only [Bool.or_eq_false_iff] at hlg
      have := of_decide_eq_false hlg.2
      omega
     obtain ⟨y, hy⟩ : ∃ y, f9 j = y := ⟨_, rfl⟩
     rw [hy] at HW hbk hl9
     have HP : Hid (∀ w1, Below w.heap.size w w1 → Calls Tryz.prog 13 #[.string (tx y)] w1 (JPQ (j, 0, 0) w1)) := Lib.hid fun w1 h => by
      have h := jparse_any (tx y) w1 (HK.out.next h) (HT.out.next h) (by rw [tx_size]; omega)
      rw [tx_list, hbk] at h; exact h
     clear hq hlg hbk hl9 hy HR
     obtain ⟨e0, e1, e2, e3, e4, e5, e6, e7, e8, e9, e10⟩ := elev HJ.out
     go_wp2_with (fail)
     clear e0 e1 e2 e3 e4 e5 e6 e7 e8 e9 e10
     refine (HO.out _ HB.out).mono ?_
     rintro e a4 ⟨B1, d1, B2, d2, B3, d3, rfl, hb, ⟨n1, n2, n3⟩, k1, k2, k3⟩
     have HL := Lib.hid (show JL a4 j B1 B2 B3 from ⟨n1, n2, n3, (HJA.out.small HM.out).lm, (HJA.out.small HM.out).lb, (HJA.out.small HM.out).lr⟩)
     clear n1 n2 n3
     replace HJ := Lib.hid (HJ.out.next hb); replace HB := Lib.hid (Below.next HB.out hb); clear hb
     have K1 := Lib.hid k1; have K2 := Lib.hid k2; have K3 := Lib.hid k3
     clear k1 k2 k3
     go_wp2_with (fail)
     refine (HW.out _ _ _ _ _ _ _ HL.out HB.out K1.out K2.out K3.out).mono ?_
     rintro e a5 ⟨rfl, hb⟩
     clear HL K1 K2 K3
     replace HJ := Lib.hid (HJ.out.next hb); replace HB := Lib.hid (Below.next HB.out hb); clear hb
     go_wp2_with (fail)
     refine (HP.out _ HB.out).mono ?_
     rintro e a6 ⟨E1, f1, E2, f2, E3, f3, rfl, hb, ⟨n1, n2, n3⟩, _, hsm⟩
     change Nds a6 E1 j.m at n1; change Nds a6 E2 j.b at n2; change Nds a6 E3 j.r at n3
     change Sm j at hsm
     replace HJ := Lib.hid (HJ.out.next hb); replace HB := Lib.hid (Below.next HB.out hb); clear hb
     have HSM := Lib.hid hsm
     have HE6 := Lib.hid (show JA a6 j E1 E2 E3 from ⟨n1, n2, n3, Nat.le_trans hsm.m (by decide), Nat.le_trans hsm.b (by decide), Nat.le_trans hsm.r (by decide), Nat.le_trans hsm.nm (by decide)⟩)
     rw [show (jcl (j, 0, 0).1 E1 f1 E2 f2 E3 f3).toArray = #[.string (tx j.nm), .int .i64 j.t, .int .i64 j.p, .int .i64 j.k, .int .i64 j.n, .int .i64 j.f, .slice E1 j.m.length f1, .slice E2 j.b.length f2, .slice E3 j.r.length f3, .string (tx j.fd), .bool j.cb] from rfl]
     clear n1 n2 n3 hsm
     have hm := made11 a6 32 (.string (tx j.nm)) (.int .i64 j.t) (.int .i64 j.p) (.int .i64 j.k) (.int .i64 j.n) (.int .i64 j.f) (.slice E1 j.m.length f1) (.slice E2 j.b.length f2) (.slice E3 j.r.length f3) (.string (tx j.fd)) (.bool j.cb)
     have hbe := box1 a6 (.cells #[.string (tx j.nm), .int .i64 j.t, .int .i64 j.p, .int .i64 j.k, .int .i64 j.n, .int .i64 j.f, .slice E1 j.m.length f1, .slice E2 j.b.length f2, .slice E3 j.r.length f3, .string (tx j.fd), .bool j.cb] 32)
     have HX := Lib.hid hm
     have HJE : Hid (∀ w1, Below (a6.alloc (.cells #[.string (tx j.nm), .int .i64 j.t, .int .i64 j.p, .int .i64 j.k, .int .i64 j.n, .int .i64 j.f, .slice E1 j.m.length f1, .slice E2 j.b.length f2, .slice E3 j.r.length f3, .string (tx j.fd), .bool j.cb] 32)).heap.size (a6.alloc (.cells #[.string (tx j.nm), .int .i64 j.t, .int .i64 j.p, .int .i64 j.k, .int .i64 j.n, .int .i64 j.f, .slice E1 j.m.length f1, .slice E2 j.b.length f2, .slice E3 j.r.length f3, .string (tx j.fd), .bool j.cb] 32)) w1 → JA w1 j E1 E2 E3) := Lib.hid fun w1 h => HE6.out.next (Below.next (box1 a6 (.cells #[.string (tx j.nm), .int .i64 j.t, .int .i64 j.p, .int .i64 j.k, .int .i64 j.n, .int .i64 j.f, .slice E1 j.m.length f1, .slice E2 j.b.length f2, .slice E3 j.r.length f3, .string (tx j.fd), .bool j.cb] 32)) h)
     have hb := hbe
     replace HJ := Lib.hid (HJ.out.next hb); replace HB := Lib.hid (Below.next HB.out hb); clear hb
     clear hm hbe
     go_upto_region 7 with (fail)
     generalize a6.alloc (.cells #[.string (tx j.nm), .int .i64 j.t, .int .i64 j.p, .int .i64 j.k, .int .i64 j.n, .int .i64 j.f, .slice E1 j.m.length f1, .slice E2 j.b.length f2, .slice E3 j.r.length f3, .string (tx j.fd), .bool j.cb] 32) = v7 at *
     generalize a6.heap.size = BX at *
     obtain ⟨p0, p1, p2, p3, p4, p5, p6, p7, p8, p9, p10⟩ := elev HJ.out
     obtain ⟨px0, px1, px2, px3, px4, px5, px6, px7, px8, px9, px10⟩ := elev HX.out
     go_region_held3 (fun w' => w'.cell? ⟨w.heap.size, 0, none⟩ = some (.string (tx j.nm)) ∧ w'.cell? ⟨w.heap.size, 1, none⟩ = some (.int .i64 j.t) ∧ w'.cell? ⟨w.heap.size, 2, none⟩ = some (.int .i64 j.p) ∧ w'.cell? ⟨w.heap.size, 3, none⟩ = some (.int .i64 j.k) ∧ w'.cell? ⟨w.heap.size, 4, none⟩ = some (.int .i64 j.n) ∧ w'.cell? ⟨w.heap.size, 5, none⟩ = some (.int .i64 j.f) ∧ w'.cell? ⟨w.heap.size, 6, none⟩ = some (.slice A1 j.m.length c1) ∧ w'.cell? ⟨w.heap.size, 7, none⟩ = some (.slice A2 j.b.length c2) ∧ w'.cell? ⟨w.heap.size, 8, none⟩ = some (.slice A3 j.r.length c3) ∧ w'.cell? ⟨w.heap.size, 9, none⟩ = some (.string (tx j.fd)) ∧ w'.cell? ⟨w.heap.size, 10, none⟩ = some (.bool j.cb) ∧ w'.cell? ⟨BX, 0, none⟩ = some (.string (tx j.nm)) ∧ w'.cell? ⟨BX, 1, none⟩ = some (.int .i64 j.t) ∧ w'.cell? ⟨BX, 2, none⟩ = some (.int .i64 j.p) ∧ w'.cell? ⟨BX, 3, none⟩ = some (.int .i64 j.k) ∧ w'.cell? ⟨BX, 4, none⟩ = some (.int .i64 j.n) ∧ w'.cell? ⟨BX, 5, none⟩ = some (.int .i64 j.f) ∧ w'.cell? ⟨BX, 6, none⟩ = some (.slice E1 j.m.length f1) ∧ w'.cell? ⟨BX, 7, none⟩ = some (.slice E2 j.b.length f2) ∧ w'.cell? ⟨BX, 8, none⟩ = some (.slice E3 j.r.length f3) ∧ w'.cell? ⟨BX, 9, none⟩ = some (.string (tx j.fd)) ∧ w'.cell? ⟨BX, 10, none⟩ = some (.bool j.cb)) (go_keep)
      (first
      | (go_at_call 14
         refine (jsame_any j B1 d1 B2 d2 B3 d3 A1 c1 A2 c2 A3 c3 _ HLP.out (HL0.out _ HB7.out)).mono ?_
         rintro e u8 ⟨rfl, hb8⟩
         have HJ8 := Lib.hid (HJ7.out.next hb8); have HX8 := Lib.hid (HX7.out.next hb8); have HB8 := Lib.hid (Below.next HB7.out hb8)
         clear hb8
         obtain ⟨r0, r1, r2, r3, r4, r5, r6, r7, r8, r9, r10⟩ := elev HJ8.out
         obtain ⟨rx0, rx1, rx2, rx3, rx4, rx5, rx6, rx7, rx8, rx9, rx10⟩ := elev HX8.out
         skip)
      | (go_at_call 15
         refine (jplain_any j E1 f1 E2 f2 E3 f3 _ (HJE.out _ (below_drewN (Below.refl _ _) 1)) HSM.out).mono ?_
         rintro e u7 ⟨B1, d1, B2, d2, B3, d3, rfl, hb7, ⟨n1, n2, n3⟩, _, _, _⟩
         have HJ7 := Lib.hid ((HJ.out.next (below_drewN (Below.refl _ _) 1)).next hb7); have HX7 := Lib.hid ((HX.out.next (below_drewN (Below.refl _ _) 1)).next hb7); have HB7 := Lib.hid (Below.next (below_drewN HB.out 1) hb7)
         have HLP := Lib.hid (show JL u7 j B1 B2 B3 from ⟨n1, n2, n3, (HJA.out.small HM.out).lm, (HJA.out.small HM.out).lb, (HJA.out.small HM.out).lr⟩)
         clear hb7 n1 n2 n3
         obtain ⟨q0, q1, q2, q3, q4, q5, q6, q7, q8, q9, q10⟩ := elev HJ7.out
         obtain ⟨qx0, qx1, qx2, qx3, qx4, qx5, qx6, qx7, qx8, qx9, qx10⟩ := elev HX7.out
         skip))
     rename_i hHd
     clear hHd
     have HB := HB8
     go_wp2_with (fail)
     exact bodyPost_ret (v := .bool true) (by simp [results, Tryz.results3, go_sem]) rfl ⟨rfl, HB.out⟩
   · rw [hlg, if_pos rfl] at hq
     rw [hq] at HW
     clear hq hlg
     have htn : (tx []).toList = ([] : List UInt8) := by rw [ByteArray.toList_eq]; rfl
     obtain ⟨e0, e1, e2, e3, e4, e5, e6, e7, e8, e9, e10⟩ := elev HJ.out
     go_wp2_with (fail)
     clear e0 e1 e2 e3 e4 e5 e6 e7 e8 e9 e10
     refine (HO.out _ HB.out).mono ?_
     rintro e a4 ⟨B1, d1, B2, d2, B3, d3, rfl, hb, ⟨n1, n2, n3⟩, k1, k2, k3⟩
     have HL := Lib.hid (show JL a4 j B1 B2 B3 from ⟨n1, n2, n3, (HJA.out.small HM.out).lm, (HJA.out.small HM.out).lb, (HJA.out.small HM.out).lr⟩)
     clear n1 n2 n3
     replace HJ := Lib.hid (HJ.out.next hb); replace HB := Lib.hid (Below.next HB.out hb); clear hb
     have K1 := Lib.hid k1; have K2 := Lib.hid k2; have K3 := Lib.hid k3
     clear k1 k2 k3
     go_wp2_with (fail)
     refine (HW.out _ _ _ _ _ _ _ HL.out HB.out K1.out K2.out K3.out).mono ?_
     rintro e a5 ⟨rfl, hb⟩
     clear HL K1 K2 K3
     replace HJ := Lib.hid (HJ.out.next hb); replace HB := Lib.hid (Below.next HB.out hb); clear hb
     obtain ⟨e0, e1, e2, e3, e4, e5, e6, e7, e8, e9, e10⟩ := elev HJ.out
     go_wp2_with (fail)
     clear e0 e1 e2 e3 e4 e5 e6 e7 e8 e9 e10
     refine (HO.out _ HB.out).mono ?_
     rintro e a6 ⟨B1, d1, B2, d2, B3, d3, rfl, hb, ⟨n1, n2, n3⟩, k1, k2, k3⟩
     have HL := Lib.hid (show JL a6 j B1 B2 B3 from ⟨n1, n2, n3, (HJA.out.small HM.out).lm, (HJA.out.small HM.out).lb, (HJA.out.small HM.out).lr⟩)
     clear n1 n2 n3
     replace HJ := Lib.hid (HJ.out.next hb); replace HB := Lib.hid (Below.next HB.out hb); clear hb
     clear k1 k2 k3
     go_wp2_with (fail)
     refine (HR.out _ _ _ _ _ _ _ HL.out HB.out).mono ?_
     rintro e a7 ⟨rfl, hb⟩
     clear HL
     replace HJ := Lib.hid (HJ.out.next hb); replace HB := Lib.hid (Below.next HB.out hb); clear hb
     go_wp2_with (fail)
     exact bodyPost_ret (v := .bool true) (by simp [results, Tryz.results3, go_sem]) rfl ⟨rfl, HB.out⟩
 · obtain ⟨x, hx⟩ : ∃ x, jr j = x := ⟨_, rfl⟩
   rw [show jwq j = ([], x) from (if_pos h0).trans (by rw [hx])] at HW
   have hne : (x == 0) = false := beq_eq_false_iff_ne.2 (by rw [← hx]; exact h0)
   rw [hx] at HR
   clear h0 hx
   have htn : (tx []).toList = ([] : List UInt8) := by rw [ByteArray.toList_eq]; rfl
   obtain ⟨e0, e1, e2, e3, e4, e5, e6, e7, e8, e9, e10⟩ := elev HJ.out
   go_wp2_with (fail)
   clear e0 e1 e2 e3 e4 e5 e6 e7 e8 e9 e10
   refine (HO.out _ HB.out).mono ?_
   rintro e a4 ⟨B1, d1, B2, d2, B3, d3, rfl, hb, ⟨n1, n2, n3⟩, k1, k2, k3⟩
   have HL := Lib.hid (show JL a4 j B1 B2 B3 from ⟨n1, n2, n3, (HJA.out.small HM.out).lm, (HJA.out.small HM.out).lb, (HJA.out.small HM.out).lr⟩)
   clear n1 n2 n3
   replace HJ := Lib.hid (HJ.out.next hb); replace HB := Lib.hid (Below.next HB.out hb); clear hb
   have K1 := Lib.hid k1; have K2 := Lib.hid k2; have K3 := Lib.hid k3
   clear k1 k2 k3
   go_wp2_with (fail)
   refine (HW.out _ _ _ _ _ _ _ HL.out HB.out K1.out K2.out K3.out).mono ?_
   rintro e a5 ⟨rfl, hb⟩
   clear HL K1 K2 K3
   replace HJ := Lib.hid (HJ.out.next hb); replace HB := Lib.hid (Below.next HB.out hb); clear hb
   obtain ⟨e0, e1, e2, e3, e4, e5, e6, e7, e8, e9, e10⟩ := elev HJ.out
   go_wp2_with (fail)
   clear e0 e1 e2 e3 e4 e5 e6 e7 e8 e9 e10
   refine (HO.out _ HB.out).mono ?_
   rintro e a6 ⟨B1, d1, B2, d2, B3, d3, rfl, hb, ⟨n1, n2, n3⟩, k1, k2, k3⟩
   have HL := Lib.hid (show JL a6 j B1 B2 B3 from ⟨n1, n2, n3, (HJA.out.small HM.out).lm, (HJA.out.small HM.out).lb, (HJA.out.small HM.out).lr⟩)
   clear n1 n2 n3
   replace HJ := Lib.hid (HJ.out.next hb); replace HB := Lib.hid (Below.next HB.out hb); clear hb
   clear k1 k2 k3
   go_wp2_with (fail)
   refine (HR.out _ _ _ _ _ _ _ HL.out HB.out).mono ?_
   rintro e a7 ⟨rfl, hb⟩
   clear HL
   replace HJ := Lib.hid (HJ.out.next hb); replace HB := Lib.hid (Below.next HB.out hb); clear hb
   go_wp2_with (fail)
   exact bodyPost_ret (v := .bool true) (by simp [results, Tryz.results3, go_sem]) rfl ⟨rfl, HB.out⟩
end Go.Proofs.YtimllihegnokeaaGreatDoor.Jo
