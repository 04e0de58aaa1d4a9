/-
  Small texts of this claim, together: JoOnlyW, JoDoc, JoSame.
-/
import Derived.Test.YtimllihegnokeaaGreatDoorQJoParse
import Derived.Test.YtimllihegnokeaaGreatDoorQ5
import Derived.Test.YtimllihegnokeaaGreatDoorQJoWrite
import Derived.Deep.Cut
import Derived.Test.YtimllihegnokeaaGreatDoorQ8
import Derived.Deep.RegionHeld3
import Derived.Test.YtimllihegnokeaaGreatDoorQ7
namespace Go.Proofs.YtimllihegnokeaaGreatDoor.Jo
open Go.ChangeShapes Go.WideShapes Go.ChangeAt Go.RowKit Ov Va Ex Ev
set_option maxHeartbeats 4000000 in
set_option maxRecDepth 100000 in
theorem only_core (s : ByteArray) (w : World) (hT : Tab w) (hK : KM w) (hs : s.size ≤ 9223372036854775807) : Calls Tryz.prog 4 #[.string s] w (Gives (.bool true) w) := by
 have HT := Lib.hid hT; have HK := Lib.hid hK
 clear hT hK
 by_cases hlen : 5000 < s.size
 · have g1 : decide ((5000 : Int) < (s.size : Int)) = true := decide_eq_true (by omega)
   have g2 : decide (5000 < s.size) = true := decide_eq_true hlen
   clear hlen
   go_enter Tryz.func4, Tryz.ntmps4
   go_wp2_with (fail)
   refine (awake_any _).mono ?_
   rintro e a1 ⟨rfl, hb⟩
   have HB := Lib.hid hb; clear hb
   go_wp2_with (fail)
   refine (awake_any _).mono ?_
   rintro e a2 ⟨rfl, hb⟩
   replace HB := Lib.hid (Below.next HB.out hb); clear hb
   go_wp2_with (fail)
   exact bodyPost_ret (v := .bool true) (by simp [results, Tryz.results4, go_sem]) rfl ⟨rfl, HB.out⟩
 · have g1 : decide ((5000 : Int) < (s.size : Int)) = false := decide_eq_false (by omega)
   have g2 : decide (5000 < s.size) = false := decide_eq_false hlen
   obtain ⟨⟨j, a, x⟩, hR⟩ : ∃ R, pj s.data.toList = R := ⟨_, rfl⟩
   have HP : Hid (∀ w1, Below w.heap.size w w1 → Calls Tryz.prog 13 #[.string s] w1 (JPQ (j, a, x) w1)) := Lib.hid fun w1 h => by
    have h := jparse_any s w1 (HK.out.next h) (HT.out.next h) (by omega)
    rw [hR] at h; exact h
   have HR := Lib.hid hR
   clear hlen hR
   go_enter Tryz.func4, Tryz.ntmps4
   go_wp2_with (fail)
   refine (awake_any _).mono ?_
   rintro e a1 ⟨rfl, hb⟩
   have HB := Lib.hid hb; clear hb
   go_wp2_with (fail)
   refine (HP.out _ HB.out).mono ?_
   rintro e a2 ⟨A1, c1, A2, c2, A3, c3, rfl, hb, ⟨n1, n2, n3⟩, ⟨k1, k2, k3⟩, hsm⟩
   change Nds a2 A1 j.m at n1; change Nds a2 A2 j.b at n2; change Nds a2 A3 j.r at n3
   change j.m.length ≤ c1 at k1; change j.b.length ≤ c2 at k2; change j.r.length ≤ c3 at k3
   change Sm j at hsm
   replace HB := Lib.hid (Below.next HB.out hb); clear hb
   by_cases hx : x = 0
   · subst hx
     obtain ⟨ha, hw⟩ := pj_ok HR.out
     subst ha
     have HL := Lib.hid (show JL a2 j A1 A2 A3 from ⟨n1, n2, n3, by have := hsm.m; omega, by have := hsm.b; omega, by have := hsm.r; omega⟩)
     have HW : Hid (∀ w1, Below a2.heap.size a2 w1 → Calls Tryz.prog 10 #[.agg #[.string (tx j.nm), .int .i64 j.t, .int .i64 j.p, .int .i64 j.k, .int .i64 j.n, .int .i64 j.f, .slice A1 j.m.length c1, .slice A2 j.b.length c2, .slice A3 j.r.length c3, .string (tx j.fd), .bool j.cb]] w1 (Gives (.tuple #[.string s, .int .i64 0]) w1)) := Lib.hid fun w1 h => by
      have h := jwrite_any j A1 c1 A2 c2 A3 c3 w1 (HL.out.next h) (HK.out.next (Below.next HB.out h)) (HT.out.next (Below.next HB.out h)) (by have := hsm.nm; omega) k1 k2 k3
      rw [hw] at h
      simp only [tx_of] at h
      exact h
     have hm := made11 a2 32 (.string (tx j.nm)) (.int .i64 j.t) (.int .i64 j.p) (.int .i64 j.k) (.int .i64 j.n) (.int .i64 j.f) (.slice A1 j.m.length c1) (.slice A2 j.b.length c2) (.slice A3 j.r.length c3) (.string (tx j.fd)) (.bool j.cb)
     have hbe := box1 a2 (.cells #[.string (tx j.nm), .int .i64 j.t, .int .i64 j.p, .int .i64 j.k, .int .i64 j.n, .int .i64 j.f, .slice A1 j.m.length c1, .slice A2 j.b.length c2, .slice A3 j.r.length c3, .string (tx j.fd), .bool j.cb] 32)
     have HM := Lib.hid hm; have HBE := Lib.hid hbe
     clear hm hbe n1 n2 n3 k1 k2 k3 hsm hw
     unfold jcl
     dsimp only [List.toArray]
     go_upto_region 6 with (fail)
     have hb9 := HBE.out
     have HB9 := Lib.hid (Below.next HB.out hb9)
     generalize a2.alloc (.cells #[.string (tx j.nm), .int .i64 j.t, .int .i64 j.p, .int .i64 j.k, .int .i64 j.n, .int .i64 j.f, .slice A1 j.m.length c1, .slice A2 j.b.length c2, .slice A3 j.r.length c3, .string (tx j.fd), .bool j.cb] 32) = v at *
     obtain ⟨e0, e1, e2, e3, e4, e5, e6, e7, e8, e9, e10⟩ := elev HM.out
     clear hb9
     go_wp2_with (fail)
     clear e0 e1 e2 e3 e4 e5 e6 e7 e8 e9 e10
     refine (HW.out _ HBE.out).mono ?_
     rintro e a3 ⟨rfl, hb⟩
     replace HB := Lib.hid (Below.next HB9.out hb); clear hb
     go_wp2_with (fail)
     exact bodyPost_ret (v := .bool true) (by simp [results, Tryz.results4, go_sem]) rfl ⟨rfl, HB.out⟩
   · have hne : (x == 0) = false := beq_eq_false_iff_ne.2 hx
     obtain ⟨hj, hal⟩ := pj_bad (s := s.data.toList) (by rw [HR.out]; exact hx)
     rw [HR.out] at hj hal
     change j = j0 at hj
     change a ≤ s.data.toList.length at hal
     have hll : s.data.toList.length = s.size := by simp
     rw [hll] at hal
     subst hj
     have q1 : decide ((a : Int) ≤ (s.size : Int)) = true := decide_eq_true (by omega)
     have q2 : decide (a ≤ s.size) = true := decide_eq_true hal
     have q3 : decide ((0 : Int) ≤ (a : Int)) = true := decide_eq_true (by omega)
     have hm := made11 a2 32 (.string ⟨#[]⟩) (.int .i64 0) (.int .i64 0) (.int .i64 0) (.int .i64 0) (.int .i64 0) (.slice A1 0 c1) (.slice A2 0 c2) (.slice A3 0 c3) (.string ⟨#[]⟩) (.bool false)
     have hbe := box1 a2 (.cells #[.string ⟨#[]⟩, .int .i64 0, .int .i64 0, .int .i64 0, .int .i64 0, .int .i64 0, .slice A1 0 c1, .slice A2 0 c2, .slice A3 0 c3, .string ⟨#[]⟩, .bool false] 32)
     have HM := Lib.hid hm
     replace HB := Lib.hid (Below.next HB.out hbe)
     clear hm hbe n1 n2 n3 k1 k2 k3 hsm hll hx hal
     rw [show (jcl (j0, a, x).1 A1 c1 A2 c2 A3 c3).toArray = #[.string ⟨#[]⟩, .int .i64 0, .int .i64 0, .int .i64 0, .int .i64 0, .int .i64 0, .slice A1 0 c1, .slice A2 0 c2, .slice A3 0 c3, .string ⟨#[]⟩, .bool false] from rfl]
     go_upto_region 5 with (fail)
     generalize a2.alloc (.cells #[.string ⟨#[]⟩, .int .i64 0, .int .i64 0, .int .i64 0, .int .i64 0, .int .i64 0, .slice A1 0 c1, .slice A2 0 c2, .slice A3 0 c3, .string ⟨#[]⟩, .bool false] 32) = v at *
     obtain ⟨e0, e1, e2, e3, e4, e5, e6, e7, e8, e9, e10⟩ := elev HM.out
     go_wp2_with (fail)
     exact bodyPost_ret (v := .bool true) (by simp [results, Tryz.results4, go_sem]) rfl ⟨rfl, HB.out⟩
set_option maxHeartbeats 2000000 in
set_option maxRecDepth 100000 in
theorem jplain_any (j : Jb) (A1 : Option Addr) (c1 : Nat) (A2 : Option Addr) (c2 : Nat) (A3 : Option Addr) (c3 : Nat) (w : World) (hj : JA w j A1 A2 A3) (hs : Sm j) : Calls Tryz.prog 15 #[.agg #[.string (tx j.nm), .int .i64 j.t, .int .i64 j.p, .int .i64 j.k, .int .i64 j.n, .int .i64 j.f, .slice A1 j.m.length c1, .slice A2 j.b.length c2, .slice A3 j.r.length c3, .string (tx j.fd), .bool j.cb]] w (OfQ j w) := by
 have H1 := Lib.hid (fun w1 (h : Below w.heap.size w w1) => plain_list j.m A1 c1 w1 (hj.m.next h) (by have := hs.m; omega))
 have H2 := Lib.hid (fun w1 (h : Below w.heap.size w w1) => plain_list j.b A2 c2 w1 (hj.b.next h) (by have := hs.b; omega))
 have H3 := Lib.hid (fun w1 (h : Below w.heap.size w w1) => plain_list j.r A3 c3 w1 (hj.r.next h) (by have := hs.r; omega))
 clear hj hs
 have HJ := Lib.hid ((made11 w 32 (.string (tx j.nm)) (.int .i64 j.t) (.int .i64 j.p) (.int .i64 j.k) (.int .i64 j.n) (.int .i64 j.f) (.slice A1 j.m.length c1) (.slice A2 j.b.length c2) (.slice A3 j.r.length c3) (.string (tx j.fd)) (.bool j.cb)).old (.cells #[.string ⟨#[]⟩, .int .i64 0, .int .i64 0, .int .i64 0, .int .i64 0, .int .i64 0, .slice none 0 0, .slice none 0 0, .slice none 0 0, .string ⟨#[]⟩, .bool false] 24))
 have HZ := Lib.hid (Blk.made (w.alloc (.cells #[.string (tx j.nm), .int .i64 j.t, .int .i64 j.p, .int .i64 j.k, .int .i64 j.n, .int .i64 j.f, .slice A1 j.m.length c1, .slice A2 j.b.length c2, .slice A3 j.r.length c3, .string (tx j.fd), .bool j.cb] 32)) 24 [.string ⟨#[]⟩, .int .i64 0, .int .i64 0, .int .i64 0, .int .i64 0, .int .i64 0, .slice none 0 0, .slice none 0 0, .slice none 0 0, .string ⟨#[]⟩, .bool false] (World.size_alloc _ _))
 change Hid (Blk ((w.alloc (.cells #[.string (tx j.nm), .int .i64 j.t, .int .i64 j.p, .int .i64 j.k, .int .i64 j.n, .int .i64 j.f, .slice A1 j.m.length c1, .slice A2 j.b.length c2, .slice A3 j.r.length c3, .string (tx j.fd), .bool j.cb] 32)).alloc (.cells #[.string ⟨#[]⟩, .int .i64 0, .int .i64 0, .int .i64 0, .int .i64 0, .int .i64 0, .slice none 0 0, .slice none 0 0, .slice none 0 0, .string ⟨#[]⟩, .bool false] 24)) _ _) at HZ
 have HB := Lib.hid (box2 w (.cells #[.string (tx j.nm), .int .i64 j.t, .int .i64 j.p, .int .i64 j.k, .int .i64 j.n, .int .i64 j.f, .slice A1 j.m.length c1, .slice A2 j.b.length c2, .slice A3 j.r.length c3, .string (tx j.fd), .bool j.cb] 32) (.cells #[.string ⟨#[]⟩, .int .i64 0, .int .i64 0, .int .i64 0, .int .i64 0, .int .i64 0, .slice none 0 0, .slice none 0 0, .slice none 0 0, .string ⟨#[]⟩, .bool false] 24))
 go_enter Tryz.func15, Tryz.ntmps15
 go_wp2_with (fail)
 generalize (w.alloc (.cells #[.string (tx j.nm), .int .i64 j.t, .int .i64 j.p, .int .i64 j.k, .int .i64 j.n, .int .i64 j.f, .slice A1 j.m.length c1, .slice A2 j.b.length c2, .slice A3 j.r.length c3, .string (tx j.fd), .bool j.cb] 32)).alloc (.cells #[.string ⟨#[]⟩, .int .i64 0, .int .i64 0, .int .i64 0, .int .i64 0, .int .i64 0, .slice none 0 0, .slice none 0 0, .slice none 0 0, .string ⟨#[]⟩, .bool false] 24) = v at *
 obtain ⟨e0, e1, e2, e3, e4, e5, e6, e7, e8, e9, e10⟩ := elev HJ.out
 go_region_held3 (fun w' => w'.cell? ⟨w.heap.size, 0, none⟩ = some (.string (tx j.nm)) ∧ w'.cell? ⟨w.heap.size, 1, none⟩ = some (.int .i64 j.t) ∧ w'.cell? ⟨w.heap.size, 2, none⟩ = some (.int .i64 j.p) ∧ w'.cell? ⟨w.heap.size, 3, none⟩ = some (.int .i64 j.k) ∧ w'.cell? ⟨w.heap.size, 4, none⟩ = some (.int .i64 j.n) ∧ w'.cell? ⟨w.heap.size, 5, none⟩ = some (.int .i64 j.f) ∧ w'.cell? ⟨w.heap.size, 6, none⟩ = some (.slice A1 j.m.length c1) ∧ w'.cell? ⟨w.heap.size, 7, none⟩ = some (.slice A2 j.b.length c2) ∧ w'.cell? ⟨w.heap.size, 8, none⟩ = some (.slice A3 j.r.length c3) ∧ w'.cell? ⟨w.heap.size, 9, none⟩ = some (.string (tx j.fd)) ∧ w'.cell? ⟨w.heap.size, 10, none⟩ = some (.bool j.cb)) (go_keep)
  (first
  | (go_at_call 42
     refine (H3.out _ HB2.out).mono ?_
     rintro e w3 ⟨B3, d3, rfl, ho3, hb3⟩
     have HJ3 := Lib.hid (HJ2.out.next hb3); have HZ3 := Lib.hid (HZ2.out.next hb3); have HB3 := Lib.hid (Below.next HB2.out hb3)
     have HO3 := Lib.hid ho3
     have HO13 := Lib.hid (HO12.out.next hb3)
     have HO23 := Lib.hid (Nds.next (Nds.of_own HO2.out) hb3)
     clear hb3 ho3
     obtain ⟨r0, r1, r2, r3, r4, r5, r6, r7, r8, r9, r10⟩ := elev HJ3.out
     obtain ⟨z0, z1, z2, z3, z4, z5, z6, z7, z8, z9, z10⟩ := elet HZ3.out
     obtain ⟨y0, y1, y2, y3, y4, y5, y6, y7, y8, y9, y10⟩ := elev HZ3.out
     have hlt3 := HZ3.out.lt)
  | (go_at_call 42
     refine (H2.out _ HB1.out).mono ?_
     rintro e w2 ⟨B2, d2, rfl, ho2, hb2⟩
     have HJ2 := Lib.hid (HJ1.out.next hb2); have HZ2 := Lib.hid (HZ1.out.next hb2); have HB2 := Lib.hid (Below.next HB1.out hb2)
     have HO2 := Lib.hid ho2
     have HO12 := Lib.hid (Nds.next (Nds.of_own HO1.out) hb2)
     clear hb2 ho2
     obtain ⟨q0, q1, q2, q3, q4, q5, q6, q7, q8, q9, q10⟩ := elev HJ2.out)
  | (go_at_call 42
     refine (H1.out _ (below_drewN HB.out 1)).mono ?_
     rintro e w1 ⟨B1, d1, rfl, ho1, hb1⟩
     have HJ1 := Lib.hid ((HJ.out.next (below_drewN (Below.refl _ _) 1)).next hb1); have HZ1 := Lib.hid ((HZ.out.next (below_drewN (Below.refl _ _) 1)).next hb1); have HB1 := Lib.hid (Below.next (below_drewN HB.out 1) hb1)
     have HO1 := Lib.hid ho1
     clear hb1 ho1
     obtain ⟨p0, p1, p2, p3, p4, p5, p6, p7, p8, p9, p10⟩ := elev HJ1.out))
 rename_i hHd
 clear hHd
 have k1 := own_ne (b := w.heap.size + 1) HO1.out (by first | exact HZ.out.lt | (show _ < _; exact HZ.out.lt))
 have k2 := own_ne (b := w.heap.size + 1) HO2.out HZ1.out.lt
 have k3 := own_ne (b := w.heap.size + 1) HO3.out HZ2.out.lt
 have hx := blk_puts [.string (tx j.nm), .int .i64 j.t, .int .i64 j.p, .int .i64 j.k, .int .i64 j.n, .int .i64 j.f, .slice B1 j.m.length d1, .slice B2 j.b.length d2, .slice B3 j.r.length d3, .string (tx j.fd), .bool j.cb] 0 HZ3.out (Nat.le_refl 11)
 change Blk (putL w3 (w.heap.size + 1) 0 [.string (tx j.nm), .int .i64 j.t, .int .i64 j.p, .int .i64 j.k, .int .i64 j.n, .int .i64 j.f, .slice B1 j.m.length d1, .slice B2 j.b.length d2, .slice B3 j.r.length d3, .string (tx j.fd), .bool j.cb]) _ [.string (tx j.nm), .int .i64 j.t, .int .i64 j.p, .int .i64 j.k, .int .i64 j.n, .int .i64 j.f, .slice B1 j.m.length d1, .slice B2 j.b.length d2, .slice B3 j.r.length d3, .string (tx j.fd), .bool j.cb] at hx
 have hb := below_puts (B := w.heap.size + 1) [.string (tx j.nm), .int .i64 j.t, .int .i64 j.p, .int .i64 j.k, .int .i64 j.n, .int .i64 j.f, .slice B1 j.m.length d1, .slice B2 j.b.length d2, .slice B3 j.r.length d3, .string (tx j.fd), .bool j.cb] 0 HB3.out (by omega)
 have n1 := nds_puts (C := w.heap.size + 1) [.string (tx j.nm), .int .i64 j.t, .int .i64 j.p, .int .i64 j.k, .int .i64 j.n, .int .i64 j.f, .slice B1 j.m.length d1, .slice B2 j.b.length d2, .slice B3 j.r.length d3, .string (tx j.fd), .bool j.cb] 0 HO13.out k1
 have n2 := nds_puts (C := w.heap.size + 1) [.string (tx j.nm), .int .i64 j.t, .int .i64 j.p, .int .i64 j.k, .int .i64 j.n, .int .i64 j.f, .slice B1 j.m.length d1, .slice B2 j.b.length d2, .slice B3 j.r.length d3, .string (tx j.fd), .bool j.cb] 0 HO23.out k2
 have n3 := nds_puts (C := w.heap.size + 1) [.string (tx j.nm), .int .i64 j.t, .int .i64 j.p, .int .i64 j.k, .int .i64 j.n, .int .i64 j.f, .slice B1 j.m.length d1, .slice B2 j.b.length d2, .slice B3 j.r.length d3, .string (tx j.fd), .bool j.cb] 0 (Nds.of_own HO3.out) k3
 have a1 := (own_cap HO1.out).1; have a2 := (own_cap HO2.out).1; have a3 := (own_cap HO3.out).1
 clear e0 e1 e2 e3 e4 e5 e6 e7 e8 e9 e10 p0 p1 p2 p3 p4 p5 p6 p7 p8 p9 p10 q0 q1 q2 q3 q4 q5 q6 q7 q8 q9 q10 r0 r1 r2 r3 r4 r5 r6 r7 r8 r9 r10 z0 z1 z2 z3 z4 z5 z6 z7 z8 z9 z10 y0 y1 y2 y3 y4 y5 y6 y7 y8 y9 y10
 change Exit.then _ _ Exit.normal _ (putL w3 (w.heap.size + 1) 0 [.string (tx j.nm), .int .i64 j.t, .int .i64 j.p, .int .i64 j.k, .int .i64 j.n, .int .i64 j.f, .slice B1 j.m.length d1, .slice B2 j.b.length d2, .slice B3 j.r.length d3, .string (tx j.fd), .bool j.cb])
 generalize (putL w3 (w.heap.size + 1) 0 [.string (tx j.nm), .int .i64 j.t, .int .i64 j.p, .int .i64 j.k, .int .i64 j.n, .int .i64 j.f, .slice B1 j.m.length d1, .slice B2 j.b.length d2, .slice B3 j.r.length d3, .string (tx j.fd), .bool j.cb]) = w9 at *
 obtain ⟨c0, c1_, c2_, c3_, c4, c5, c6, c7, c8, c9, c10⟩ := elev hx
 go_wp2_with (fail)
 exact bodyPost_ret (v := .agg #[.string (tx j.nm), .int .i64 j.t, .int .i64 j.p, .int .i64 j.k, .int .i64 j.n, .int .i64 j.f, .slice B1 j.m.length d1, .slice B2 j.b.length d2, .slice B3 j.r.length d3, .string (tx j.fd), .bool j.cb]) (by simp [results, Tryz.results15, go_sem, c0, c1_, c2_, c3_, c4, c5, c6, c7, c8, c9, c10]) rfl ⟨B1, d1, B2, d2, B3, d3, rfl, hb, ⟨n1, n2, n3⟩, a1, a2, a3⟩
set_option maxHeartbeats 4000000 in
set_option maxRecDepth 100000 in
theorem jsame_any (j : Jb) (A1 : Option Addr) (c1 : Nat) (A2 : Option Addr) (c2 : Nat) (A3 : Option Addr) (c3 : Nat) (B1 : Option Addr) (d1 : Nat) (B2 : Option Addr) (d2 : Nat) (B3 : Option Addr) (d3 : Nat) (w : World) (ha : JL w j A1 A2 A3) (hb : JL w j B1 B2 B3) :
 Calls Tryz.prog 14 #[.agg #[.string (tx j.nm), .int .i64 j.t, .int .i64 j.p, .int .i64 j.k, .int .i64 j.n, .int .i64 j.f, .slice A1 j.m.length c1, .slice A2 j.b.length c2, .slice A3 j.r.length c3, .string (tx j.fd), .bool j.cb], .agg #[.string (tx j.nm), .int .i64 j.t, .int .i64 j.p, .int .i64 j.k, .int .i64 j.n, .int .i64 j.f, .slice B1 j.m.length d1, .slice B2 j.b.length d2, .slice B3 j.r.length d3, .string (tx j.fd), .bool j.cb]] w (Gives (.bool true) w) := by
 obtain ⟨h1, h2, h3⟩ := two_made w 24 24 [.string (tx j.nm), .int .i64 j.t, .int .i64 j.p, .int .i64 j.k, .int .i64 j.n, .int .i64 j.f, .slice A1 j.m.length c1, .slice A2 j.b.length c2, .slice A3 j.r.length c3, .string (tx j.fd), .bool j.cb] [.string (tx j.nm), .int .i64 j.t, .int .i64 j.p, .int .i64 j.k, .int .i64 j.n, .int .i64 j.f, .slice B1 j.m.length d1, .slice B2 j.b.length d2, .slice B3 j.r.length d3, .string (tx j.fd), .bool j.cb]
 change Blk ((w.alloc (.cells #[.string (tx j.nm), .int .i64 j.t, .int .i64 j.p, .int .i64 j.k, .int .i64 j.n, .int .i64 j.f, .slice A1 j.m.length c1, .slice A2 j.b.length c2, .slice A3 j.r.length c3, .string (tx j.fd), .bool j.cb] 24)).alloc (.cells #[.string (tx j.nm), .int .i64 j.t, .int .i64 j.p, .int .i64 j.k, .int .i64 j.n, .int .i64 j.f, .slice B1 j.m.length d1, .slice B2 j.b.length d2, .slice B3 j.r.length d3, .string (tx j.fd), .bool j.cb] 24)) _ _ at h1
 change Blk ((w.alloc (.cells #[.string (tx j.nm), .int .i64 j.t, .int .i64 j.p, .int .i64 j.k, .int .i64 j.n, .int .i64 j.f, .slice A1 j.m.length c1, .slice A2 j.b.length c2, .slice A3 j.r.length c3, .string (tx j.fd), .bool j.cb] 24)).alloc (.cells #[.string (tx j.nm), .int .i64 j.t, .int .i64 j.p, .int .i64 j.k, .int .i64 j.n, .int .i64 j.f, .slice B1 j.m.length d1, .slice B2 j.b.length d2, .slice B3 j.r.length d3, .string (tx j.fd), .bool j.cb] 24)) _ _ at h2
 change Below _ _ ((w.alloc (.cells #[.string (tx j.nm), .int .i64 j.t, .int .i64 j.p, .int .i64 j.k, .int .i64 j.n, .int .i64 j.f, .slice A1 j.m.length c1, .slice A2 j.b.length c2, .slice A3 j.r.length c3, .string (tx j.fd), .bool j.cb] 24)).alloc (.cells #[.string (tx j.nm), .int .i64 j.t, .int .i64 j.p, .int .i64 j.k, .int .i64 j.n, .int .i64 j.f, .slice B1 j.m.length d1, .slice B2 j.b.length d2, .slice B3 j.r.length d3, .string (tx j.fd), .bool j.cb] 24)) at h3
 have HX := Lib.hid h1; have HY := Lib.hid h2; have HB := Lib.hid h3
 have H1 := Lib.hid (fun w1 (h : Below w.heap.size w w1) => same_yes j.m A1 B1 c1 d1 w1 (ha.m.next h) (hb.m.next h) ha.lm)
 have H2 := Lib.hid (fun w1 (h : Below w.heap.size w w1) => same_yes j.b A2 B2 c2 d2 w1 (ha.b.next h) (hb.b.next h) ha.lb)
 have H3 := Lib.hid (fun w1 (h : Below w.heap.size w w1) => same_yes j.r A3 B3 c3 d3 w1 (ha.r.next h) (hb.r.next h) ha.lr)
 clear h1 h2 h3 ha hb
 go_enter Tryz.func14, Tryz.ntmps14
 go_wp2_with (fail)
 generalize (w.alloc (.cells #[.string (tx j.nm), .int .i64 j.t, .int .i64 j.p, .int .i64 j.k, .int .i64 j.n, .int .i64 j.f, .slice A1 j.m.length c1, .slice A2 j.b.length c2, .slice A3 j.r.length c3, .string (tx j.fd), .bool j.cb] 24)).alloc (.cells #[.string (tx j.nm), .int .i64 j.t, .int .i64 j.p, .int .i64 j.k, .int .i64 j.n, .int .i64 j.f, .slice B1 j.m.length d1, .slice B2 j.b.length d2, .slice B3 j.r.length d3, .string (tx j.fd), .bool j.cb] 24) = v at *
 have k0 := fun r : Over v => (HX.out.over r).c 0 _ rfl
 have l0 := fun r : Over v => (HY.out.over r).c 0 _ rfl
 have k1 := fun r : Over v => (HX.out.over r).c 1 _ rfl
 have l1 := fun r : Over v => (HY.out.over r).c 1 _ rfl
 have k2 := fun r : Over v => (HX.out.over r).c 2 _ rfl
 have l2 := fun r : Over v => (HY.out.over r).c 2 _ rfl
 have k3 := fun r : Over v => (HX.out.over r).c 3 _ rfl
 have l3 := fun r : Over v => (HY.out.over r).c 3 _ rfl
 have k4 := fun r : Over v => (HX.out.over r).c 4 _ rfl
 have l4 := fun r : Over v => (HY.out.over r).c 4 _ rfl
 have k5 := fun r : Over v => (HX.out.over r).c 5 _ rfl
 have l5 := fun r : Over v => (HY.out.over r).c 5 _ rfl
 have k6 := fun r : Over v => (HX.out.over r).c 6 _ rfl
 have l6 := fun r : Over v => (HY.out.over r).c 6 _ rfl
 have k7 := fun r : Over v => (HX.out.over r).c 7 _ rfl
 have l7 := fun r : Over v => (HY.out.over r).c 7 _ rfl
 have k8 := fun r : Over v => (HX.out.over r).c 8 _ rfl
 have l8 := fun r : Over v => (HY.out.over r).c 8 _ rfl
 have k9 := fun r : Over v => (HX.out.over r).c 9 _ rfl
 have l9 := fun r : Over v => (HY.out.over r).c 9 _ rfl
 have k10 := fun r : Over v => (HX.out.over r).c 10 _ rfl
 have l10 := fun r : Over v => (HY.out.over r).c 10 _ rfl
 refine wp_over (by kernel_rfl) (by kernel_rfl) ?_
 simp only [List.append_eq, List.cons_append, List.nil_append]
 repeat (go_big_quiet_step (first | fail | with_reducible exact over_gives _ (H1.out _ (Below.next HB.out (Subtype.property _))) | with_reducible exact over_gives _ (H2.out _ (Below.next HB.out (Subtype.property _))) | with_reducible exact over_gives _ (H3.out _ (Below.next HB.out (Subtype.property _)))))
 refine wpQuiet_nil ?_
 rintro wq ⟨⟨w2, hb⟩, rfl⟩
 replace HB := Lib.hid (Below.next HB.out hb); clear hb k0 l0 k1 l1 k2 l2 k3 l3 k4 l4 k5 l5 k6 l6 k7 l7 k8 l8 k9 l9 k10 l10
 go_wp2_with (fail)
 go_ret
 exact ⟨rfl, HB.out⟩
end Go.Proofs.YtimllihegnokeaaGreatDoor.Jo
