/-
  Small texts of this claim, together: JoPartsIn.
-/
import Derived.Test.YtimllihegnokeaaGreatDoorQ10
import Derived.Test.YtimllihegnokeaaGreatDoorQJoPart
import Derived.Test.YtimllihegnokeaaGreatDoorQ5
import Derived.Deep.Cut
namespace Go.Proofs.YtimllihegnokeaaGreatDoor.Jo
open Go.ChangeShapes Go.WideShapes Go.ChangeAt Go.RowKit Ov Va Ex Ev
theorem pt_err {j : Jb} {key : List UInt8} (h : (pt j key).2 ≠ 0) : (pt j key).1 = 0 := by
 unfold pt at h ⊢
 split
 · rfl
 split
 · rfl
 split
 · rename_i h1 h2 h3
   rw [if_neg h1, if_neg h2, if_pos h3] at h; exact absurd rfl h
 · rename_i h1 h2 h3
   rw [if_neg h1, if_neg h2, if_neg h3] at h
   unfold pm at h ⊢
   split
   · rfl
   · rename_i v _ _ e
     rw [e] at h
     simp only at h
     split
     · rename_i hv; rw [if_pos hv] at h; exact absurd rfl h
     · rfl
set_option maxHeartbeats 2000000 in
set_option maxRecDepth 100000 in
theorem partsin_core (j : Jb) (A1 : Option Addr) (c1 : Nat) (A2 : Option Addr) (c2 : Nat) (A3 : Option Addr) (c3 : Nat) (key : List UInt8) (w : World) (hj : JA w j A1 A2 A3) (hT : Tab w) (hK : KN w) (hF : JF j) (hk : key.length ≤ 9223372036854775807) : Calls Tryz.prog 7 #[.agg #[.string (tx j.nm), .int .i64 j.t, .int .i64 j.p, .int .i64 j.k, .int .i64 j.n, .int .i64 j.f, .slice A1 j.m.length c1, .slice A2 j.b.length c2, .slice A3 j.r.length c3, .string (tx j.fd), .bool j.cb], .string (tx key)] w (Gives (.bool true) w) := by
 have HS := Lib.hid (fun w1 (h : Below w.heap.size w w1) => small_any j A1 c1 A2 c2 A3 c3 w1 (hj.next h))
 have HJA := Lib.hid hj; have HT := Lib.hid hT; have HK := Lib.hid hK; have HF := Lib.hid hF
 clear hj hT hK hF
 have HJ := Lib.hid (made11 w 24 (.string (tx j.nm)) (.int .i64 j.t) (.int .i64 j.p) (.int .i64 j.k) (.int .i64 j.n) (.int .i64 j.f) (.slice A1 j.m.length c1) (.slice A2 j.b.length c2) (.slice A3 j.r.length c3) (.string (tx j.fd)) (.bool j.cb))
 have HB := Lib.hid (box1 w (.cells #[.string (tx j.nm), .int .i64 j.t, .int .i64 j.p, .int .i64 j.k, .int .i64 j.n, .int .i64 j.f, .slice A1 j.m.length c1, .slice A2 j.b.length c2, .slice A3 j.r.length c3, .string (tx j.fd), .bool j.cb] 24))
 go_enter Tryz.func7, Tryz.ntmps7
 go_wp2_with (fail)
 generalize w.alloc (.cells #[.string (tx j.nm), .int .i64 j.t, .int .i64 j.p, .int .i64 j.k, .int .i64 j.n, .int .i64 j.f, .slice A1 j.m.length c1, .slice A2 j.b.length c2, .slice A3 j.r.length c3, .string (tx j.fd), .bool j.cb] 24) = v at *
 refine (awake_any _).mono ?_
 rintro e a1 ⟨rfl, hb⟩
 replace HJ := Lib.hid (HJ.out.next hb); replace HB := Lib.hid (Below.next HB.out hb); clear hb
 obtain ⟨e0, e1, e2, e3, e4, e5, e6, e7, e8, e9, e10⟩ := elev HJ.out
 go_wp2_with (fail)
 clear e0 e1 e2 e3 e4 e5 e6 e7 e8 e9 e10
 refine (HS.out _ HB.out).mono ?_
 rintro e a2 ⟨q, rfl, hb, hq⟩
 replace HJ := Lib.hid (HJ.out.next hb); replace HB := Lib.hid (Below.next HB.out hb); clear hb
 rcases hq with rfl | ⟨rfl, hsm⟩
 · go_wp2_with (fail)
   refine (awake_any _).mono ?_
   rintro e a3 ⟨rfl, hb⟩
   replace HJ := Lib.hid (HJ.out.next hb); replace HB := Lib.hid (Below.next HB.out hb); clear hb
   go_wp2_with (fail)
   go_ret
   exact ⟨rfl, HB.out⟩
 by_cases hlen : 200 < key.length
 · have hs : (tx key).size = key.length := tx_size key
   have hgt : decide (200 < (key.length : Int)) = true := decide_eq_true (by omega)
   clear hlen
   go_wp2_with (fail)
   refine (awake_any _).mono ?_
   rintro e a3 ⟨rfl, hb⟩
   replace HJ := Lib.hid (HJ.out.next hb); replace HB := Lib.hid (Below.next HB.out hb); clear hb
   go_wp2_with (fail)
   go_ret
   exact ⟨rfl, HB.out⟩
 have hs : (tx key).size = key.length := tx_size key
 have hgt : decide (200 < (key.length : Int)) = false := decide_eq_false (by omega)
 obtain ⟨e0, e1, e2, e3, e4, e5, e6, e7, e8, e9, e10⟩ := elev HJ.out
 by_cases hf : 2000 < j.f ∧ j.f ≤ 100000
 · obtain ⟨f1, f2⟩ := hf
   have g1 : decide (2000 < j.f) = true := decide_eq_true f1
   have g2 : decide (j.f ≤ 100000) = true := decide_eq_true f2
   clear hlen f1 f2
   go_wp2_with (fail)
   clear e0 e1 e2 e3 e4 e5 e6 e7 e8 e9 e10
   refine (awake_any _).mono ?_
   rintro e a3 ⟨rfl, hb⟩
   replace HJ := Lib.hid (HJ.out.next hb); replace HB := Lib.hid (Below.next HB.out hb); clear hb
   go_wp2_with (fail)
   go_ret
   exact ⟨rfl, HB.out⟩
 have HM := Lib.hid hsm; have HLE := Lib.hid hlen
 have HO := Lib.hid (fun w1 (h : Below w.heap.size w w1) => jof_any j A1 c1 A2 c2 A3 c3 w1 (HJA.out.next h) hsm)
 rcases (show ¬ 2000 < j.f ∨ (2000 < j.f ∧ ¬ j.f ≤ 100000) by omega) with f1 | ⟨f1, f2⟩
 all_goals
  clear hf hlen hsm
  go_wp2_with (fail)
  clear f1 hgt
  first | clear f2 | skip
  clear e0 e1 e2 e3 e4 e5 e6 e7 e8 e9 e10
  refine (HO.out _ HB.out).mono ?_
  rintro e a3 ⟨B1, d1, B2, d2, B3, d3, rfl, hb, ⟨n1, n2, n3⟩, _, _, _⟩
  have HL := Lib.hid (show JL a3 j B1 B2 B3 from ⟨n1, n2, n3, (HJA.out.small HM.out).lm, (HJA.out.small HM.out).lb, (HJA.out.small HM.out).lr⟩)
  clear n1 n2 n3
  replace HJ := Lib.hid (HJ.out.next hb); replace HB := Lib.hid (Below.next HB.out hb); clear hb
  obtain ⟨⟨n, x⟩, hP⟩ : ∃ P, pt j key = P := ⟨_, rfl⟩
  have HPT : Hid (∀ w1, JL w1 j B1 B2 B3 → Below w.heap.size w w1 → Calls Tryz.prog 21 #[.agg #[.string (tx j.nm), .int .i64 j.t, .int .i64 j.p, .int .i64 j.k, .int .i64 j.n, .int .i64 j.f, .slice B1 j.m.length d1, .slice B2 j.b.length d2, .slice B3 j.r.length d3, .string (tx j.fd), .bool j.cb], .string (tx key)] w1 (fun e w' => Gives (.tuple #[.int .i64 n, .int .i64 x]) w1 e w' ∧ Nz j key)) := Lib.hid fun w1 hl hb => by
   have h := part_any j B1 d1 B2 d2 B3 d3 key w1 hl (HK.out.next hb) (by have := HM.out.nm; omega) (HT.out.next hb) hk
   unfold PQ at h; rw [hP] at h; exact h
  have HPE := Lib.hid hP
  clear hP
  go_wp2_with (fail)
  refine (HPT.out _ HL.out HB.out).mono ?_
  rintro e a4 ⟨⟨rfl, hb⟩, hz⟩
  replace HJ := Lib.hid (HJ.out.next hb); replace HB := Lib.hid (Below.next HB.out hb); clear hb
  by_cases h0 : x = 0
  · subst h0
    have hpm := pt_more hz (by rw [HPE.out])
    rw [HPE.out] at hpm
    obtain ⟨⟨b1, b2⟩, ⟨b3, b4⟩, hp⟩ := hpm
    have HP2 := Lib.hid hp
    have hb1 : decide (0 ≤ n) = true := decide_eq_true b1
    have hb2 : decide (n < j.p) = true := decide_eq_true b2
    have HB1 := Lib.hid hb1; have HB2 := Lib.hid hb2
    have hw : wrap64 (j.f + 100) = j.f + 100 := IntWalk.wrap64_in _ (by omega)
    obtain ⟨e0, e1, e2, e3, e4, e5, e6, e7, e8, e9, e10⟩ := elev HJ.out
    obtain ⟨z0, z1, z2, z3, z4, z5, z6, z7, z8, z9, z10⟩ := elet HJ.out
    clear b1 b2 b3 b4 hp hb1 hb2 hz HPT HL HO
    go_upto_region 9 with fail
    have hx := ((HJ.out.set 0 (.string ⟨#[111, 116, 104, 101, 114]⟩)).set 1 (.int .i64 1)).set 5 (.int .i64 (min (j.f + 100) 100000))
    have hb := ((HB.out.setCell (p := ⟨w.heap.size, 0, none⟩) (Nat.le_refl _) (.string ⟨#[111, 116, 104, 101, 114]⟩)).setCell (p := ⟨w.heap.size, 1, none⟩) (Nat.le_refl _) (.int .i64 1)).setCell (p := ⟨w.heap.size, 5, none⟩) (Nat.le_refl _) (.int .i64 (min (j.f + 100) 100000))
    clear e0 e1 e2 e3 e4 e5 e6 e7 e8 e9 e10 z0 z1 z2 z3 z4 z5 z6 z7 z8 z9 z10 hw
    replace HJ : Hid (Blk _ w.heap.size [.string ⟨#[111, 116, 104, 101, 114]⟩, .int .i64 1, .int .i64 j.p, .int .i64 j.k, .int .i64 j.n, .int .i64 (min (j.f + 100) 100000), .slice A1 j.m.length c1, .slice A2 j.b.length c2, .slice A3 j.r.length c3, .string (tx j.fd), .bool j.cb]) := Lib.hid hx
    replace HB := Lib.hid hb
    clear hx hb
    generalize ((a4.setCell ⟨w.heap.size, 0, none⟩ (.string ⟨#[111, 116, 104, 101, 114]⟩)).setCell ⟨w.heap.size, 1, none⟩ (.int .i64 1)).setCell ⟨w.heap.size, 5, none⟩ (.int .i64 (min (j.f + 100) 100000)) = a5 at *
    have HS2 := Lib.hid (show Sml { j with nm := [111, 116, 104, 101, 114], t := 1, f := min (j.f + 100) 100000 } from ⟨HM.out.m, HM.out.b, HM.out.r, show (5 : Nat) ≤ 100 by decide⟩)
    have HO : Hid (∀ w1, Below w.heap.size w w1 → Calls Tryz.prog 11 #[.agg #[.string ⟨#[111, 116, 104, 101, 114]⟩, .int .i64 1, .int .i64 j.p, .int .i64 j.k, .int .i64 j.n, .int .i64 (min (j.f + 100) 100000), .slice A1 j.m.length c1, .slice A2 j.b.length c2, .slice A3 j.r.length c3, .string (tx j.fd), .bool j.cb]] w1 (OfQ { j with nm := [111, 116, 104, 101, 114], t := 1, f := min (j.f + 100) 100000 } w1)) := Lib.hid fun w1 h =>
     jof_any { j with nm := [111, 116, 104, 101, 114], t := 1, f := min (j.f + 100) 100000 } A1 c1 A2 c2 A3 c3 w1 ⟨(HJA.out.next h).m, (HJA.out.next h).b, (HJA.out.next h).r, HJA.out.lm, HJA.out.lb, HJA.out.lr, show (5 : Nat) ≤ 9223372036854775807 by decide⟩ HS2.out
    obtain ⟨e0, e1, e2, e3, e4, e5, e6, e7, e8, e9, e10⟩ := elev HJ.out
    go_wp2_with (fail)
    clear e0 e1 e2 e3 e4 e5 e6 e7 e8 e9 e10
    refine (HO.out _ HB.out).mono ?_
    rintro e a6 ⟨B1', d1', B2', d2', B3', d3', rfl, hb, ⟨n1, n2, n3⟩, _, _, _⟩
    have HL := Lib.hid (show JL a6 { j with nm := [111, 116, 104, 101, 114], t := 1, f := min (j.f + 100) 100000 } B1' B2' B3' from ⟨n1, n2, n3, (HJA.out.small HM.out).lm, (HJA.out.small HM.out).lb, (HJA.out.small HM.out).lr⟩)
    clear n1 n2 n3
    replace HJ := Lib.hid (HJ.out.next hb); replace HB := Lib.hid (Below.next HB.out hb); clear hb
    have HPT : Hid (∀ w1, JL w1 { j with nm := [111, 116, 104, 101, 114], t := 1, f := min (j.f + 100) 100000 } B1' B2' B3' → Below w.heap.size w w1 → Calls Tryz.prog 21 #[.agg #[.string ⟨#[111, 116, 104, 101, 114]⟩, .int .i64 1, .int .i64 j.p, .int .i64 j.k, .int .i64 j.n, .int .i64 (min (j.f + 100) 100000), .slice B1' j.m.length d1', .slice B2' j.b.length d2', .slice B3' j.r.length d3', .string (tx j.fd), .bool j.cb], .string (tx key)] w1 (fun e w' => Gives (.tuple #[.int .i64 n, .int .i64 0]) w1 e w' ∧ Nz { j with nm := [111, 116, 104, 101, 114], t := 1, f := min (j.f + 100) 100000 } key)) := Lib.hid fun w1 hl hb => by
     have h := part_any { j with nm := [111, 116, 104, 101, 114], t := 1, f := min (j.f + 100) 100000 } B1' d1' B2' d2' B3' d3' key w1 hl (HK.out.next hb) (show (5 : Nat) ≤ 9223372036854775807 by decide) (HT.out.next hb) hk
     unfold PQ at h; rw [HP2.out] at h; exact h
    go_wp2_with (fail)
    refine (HPT.out _ HL.out HB.out).mono ?_
    rintro e a7 ⟨⟨rfl, hb⟩, _⟩
    replace HJ := Lib.hid (HJ.out.next hb); replace HB := Lib.hid (Below.next HB.out hb); clear hb
    have e2 := HJ.out.c 2 _ rfl
    have hb1 := HB1.out; have hb2 := HB2.out
    go_wp2_with (fail)
    go_ret
    exact ⟨by simp_all, HB.out⟩
  · have h1 : (x == 0) = false := beq_eq_false_iff_ne.2 h0
    have h2 := pt_err (j := j) (key := key) (by rw [HPE.out]; exact h0)
    rw [HPE.out] at h2
    simp only at h2
    subst h2
    go_wp2_with (fail)
    go_ret
    exact ⟨rfl, HB.out⟩
end Go.Proofs.YtimllihegnokeaaGreatDoor.Jo
