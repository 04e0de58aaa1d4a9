/-
  A text of this claim: FrSpoilt.
-/
import Derived.Test.YtchmepalhldpcaaGreatDoorQ3
import Derived.Deep.CutRange
namespace Go.Proofs.YtchmepalhldpcaaGreatDoor.Fr
open Go.ChangeShapes Go.WideShapes Go.ChangeAt Go.RowKit Go.Sort Ov Dk Cr
theorem ids_one {w : World} {A : Option Addr} {x : Fd} (h : Ids w A [x]) : ∃ G P, A = some ⟨G, P, none⟩ ∧ ∀ W : World, Below w.heap.size w W → W.cell? ⟨G, P, none⟩ = some (.int .i64 x.t) ∧ W.cell? ⟨G, P + 1, none⟩ = some (.int .i64 x.a) ∧ W.cell? ⟨G, P + 2, none⟩ = some (.int .i64 x.p) ∧ W.cell? ⟨G, P + 3, none⟩ = some (.int .i64 x.f) := by
 obtain ⟨G, P, rfl⟩ := h.shape (by simp)
 refine ⟨G, P, rfl, fun W k => ?_⟩
 have h' := h.next k
 have c0 := h'.cell (i := 0) (by simp) 0 _ rfl; have c1 := h'.cell (i := 0) (by simp) 1 _ rfl; have c2 := h'.cell (i := 0) (by simp) 2 _ rfl; have c3 := h'.cell (i := 0) (by simp) 3 _ rfl
 simp only [Nat.zero_mul, Nat.add_zero] at c0 c1 c2 c3
 exact ⟨c0, c1, c2, c3⟩
set_option maxRecDepth 100000 in
set_option maxHeartbeats 4000000 in
theorem spoilt_core (a b : Fd) (s : ByteArray) (i : Int) (y : UInt8) (w : World) (hT : Tab w) (hE : Ers w) : Calls Tryz.prog 3 #[.agg #[.int .i64 a.t, .int .i64 a.a, .int .i64 a.p, .int .i64 a.f], .agg #[.int .i64 b.t, .int .i64 b.a, .int .i64 b.p, .int .i64 b.f], .string s, .int .i64 i, .int .u8 (y.toNat : Int)] w (Gives (.bool true) w) := by
 have HT := Lib.hid hT; have HE := Lib.hid hE
 have HD1 := Lib.hid ((Blk.made w 23 [.int .i64 a.t, .int .i64 a.a, .int .i64 a.p, .int .i64 a.f] rfl).old (.cells #[.int .i64 b.t, .int .i64 b.a, .int .i64 b.p, .int .i64 b.f] 23))
 have HD2 := Lib.hid (Blk.made (w.alloc (.cells #[.int .i64 a.t, .int .i64 a.a, .int .i64 a.p, .int .i64 a.f] 23)) 23 [.int .i64 b.t, .int .i64 b.a, .int .i64 b.p, .int .i64 b.f] (n := w.heap.size + 1) (by simp))
 have HB0 := Lib.hid (box2 w (.cells #[.int .i64 a.t, .int .i64 a.a, .int .i64 a.p, .int .i64 a.f] 23) (.cells #[.int .i64 b.t, .int .i64 b.a, .int .i64 b.p, .int .i64 b.f] 23))
 have HOF := Lib.hid (fun x W => lof_any x W)
 have HRI := Lib.hid (fun x W => right_any x W)
 clear hT hE
 go_enter Tryz.func3, Tryz.ntmps3
 go_wp2_with (fail)
 generalize hw0 : ((w.alloc _).alloc _) = w0 at *
 clear hw0
 refine (awake_any w0 (HT.out.next HB0.out)).mono ?_
 rintro e w1 ⟨rfl, hb⟩
 have HB1 := Lib.hid (Below.next HB0.out hb)
 have HX1 := Lib.hid (HD1.out.next hb)
 have HY1 := Lib.hid (HD2.out.next hb)
 have HT1 := Lib.hid (HT.out.next HB1.out)
 have HE1 := Lib.hid (HE.out.next HB1.out)
 have HK1 : Hid (Below w1.heap.size w1 w1) := Below.refl _ _
 clear hb HD1 HD2 HB0 HT HE
 by_cases h2000 : (2000 : Int) < (s.size : Int)
 · have t1 : decide ((2000 : Int) < (s.size : Int)) = true := decide_eq_true h2000
   go_wp2_with (fail)
   refine (awake_any _ (HT1.out.next HK1.out)).mono ?_
   rintro e w2 ⟨rfl, hb⟩
   have HK2 := Lib.hid (Below.next HK1.out hb)
   clear hb HK1
   go_wp2_with (fail)
   go_ret
   exact ⟨rfl, Below.next HB1.out HK2.out⟩
 · have t1 : decide ((2000 : Int) < (s.size : Int)) = false := decide_eq_false h2000
   have hs2 : s.data.toList.length ≤ 2000 := by simp; omega
   have hs3 : s.size ≤ 900000 := by omega
   have hra := fun W => HRI.out a W
   have hrb := fun W => HRI.out b W
   cases hrta : rt a
   · rw [hrta] at hra
     have x0 := (HX1.out.next HK1.out).c 0 _ rfl; have x1 := (HX1.out.next HK1.out).c 1 _ rfl; have x2 := (HX1.out.next HK1.out).c 2 _ rfl; have x3 := (HX1.out.next HK1.out).c 3 _ rfl
     go_wp2_with (fail)
     refine (HOF.out a _).mono ?_
     rintro e w2 ⟨rfl, hb⟩
     have HK2 := Lib.hid (Below.next HK1.out hb)
     clear hb HK1 x0 x1 x2 x3
     go_wp2_with (fail)
     refine ((hra _)).mono ?_
     rintro e w3 ⟨rfl, hb⟩
     have HK3 := Lib.hid (Below.next HK2.out hb)
     clear hb HK2
     go_wp2_with (fail)
     refine (awake_any _ (HT1.out.next HK3.out)).mono ?_
     rintro e w4 ⟨rfl, hb⟩
     have HK4 := Lib.hid (Below.next HK3.out hb)
     clear hb HK3
     go_wp2_with (fail)
     go_ret
     exact ⟨rfl, Below.next HB1.out HK4.out⟩
   · rw [hrta] at hra
     cases hrtb : rt b
     · rw [hrtb] at hrb
       have x0 := (HX1.out.next HK1.out).c 0 _ rfl; have x1 := (HX1.out.next HK1.out).c 1 _ rfl; have x2 := (HX1.out.next HK1.out).c 2 _ rfl; have x3 := (HX1.out.next HK1.out).c 3 _ rfl
       go_wp2_with (fail)
       refine (HOF.out a _).mono ?_
       rintro e w2 ⟨rfl, hb⟩
       have HK2 := Lib.hid (Below.next HK1.out hb)
       clear hb HK1 x0 x1 x2 x3
       go_wp2_with (fail)
       refine ((hra _)).mono ?_
       rintro e w3 ⟨rfl, hb⟩
       have HK3 := Lib.hid (Below.next HK2.out hb)
       clear hb HK2
       have y0 := (HY1.out.next HK3.out).c 0 _ rfl; have y1 := (HY1.out.next HK3.out).c 1 _ rfl; have y2 := (HY1.out.next HK3.out).c 2 _ rfl; have y3 := (HY1.out.next HK3.out).c 3 _ rfl
       go_wp2_with (fail)
       refine (HOF.out b _).mono ?_
       rintro e w4 ⟨rfl, hb⟩
       have HK4 := Lib.hid (Below.next HK3.out hb)
       clear hb HK3 y0 y1 y2 y3
       go_wp2_with (fail)
       refine ((hrb _)).mono ?_
       rintro e w5 ⟨rfl, hb⟩
       have HK5 := Lib.hid (Below.next HK4.out hb)
       clear hb HK4
       go_wp2_with (fail)
       refine (awake_any _ (HT1.out.next HK5.out)).mono ?_
       rintro e w6 ⟨rfl, hb⟩
       have HK6 := Lib.hid (Below.next HK5.out hb)
       clear hb HK5
       go_wp2_with (fail)
       go_ret
       exact ⟨rfl, Below.next HB1.out HK6.out⟩
     · rw [hrtb] at hrb
       by_cases hab : a = b
       · subst hab
         have heq := fun W => (eql_rid a a W).trans (by rw [decide_eq_true rfl])
         have x0 := (HX1.out.next HK1.out).c 0 _ rfl; have x1 := (HX1.out.next HK1.out).c 1 _ rfl; have x2 := (HX1.out.next HK1.out).c 2 _ rfl; have x3 := (HX1.out.next HK1.out).c 3 _ rfl
         go_wp2_with (fail)
         refine (HOF.out a _).mono ?_
         rintro e w2 ⟨rfl, hb⟩
         have HK2 := Lib.hid (Below.next HK1.out hb)
         clear hb HK1 x0 x1 x2 x3
         go_wp2_with (fail)
         refine ((hra _)).mono ?_
         rintro e w3 ⟨rfl, hb⟩
         have HK3 := Lib.hid (Below.next HK2.out hb)
         clear hb HK2
         have y0 := (HY1.out.next HK3.out).c 0 _ rfl; have y1 := (HY1.out.next HK3.out).c 1 _ rfl; have y2 := (HY1.out.next HK3.out).c 2 _ rfl; have y3 := (HY1.out.next HK3.out).c 3 _ rfl
         go_wp2_with (fail)
         refine (HOF.out a _).mono ?_
         rintro e w4 ⟨rfl, hb⟩
         have HK4 := Lib.hid (Below.next HK3.out hb)
         clear hb HK3 y0 y1 y2 y3
         go_wp2_with (fail)
         refine ((hra _)).mono ?_
         rintro e w5 ⟨rfl, hb⟩
         have HK5 := Lib.hid (Below.next HK4.out hb)
         clear hb HK4
         have x0 := (HX1.out.next HK5.out).c 0 _ rfl; have x1 := (HX1.out.next HK5.out).c 1 _ rfl; have x2 := (HX1.out.next HK5.out).c 2 _ rfl; have x3 := (HX1.out.next HK5.out).c 3 _ rfl
         have y0 := (HY1.out.next HK5.out).c 0 _ rfl; have y1 := (HY1.out.next HK5.out).c 1 _ rfl; have y2 := (HY1.out.next HK5.out).c 2 _ rfl; have y3 := (HY1.out.next HK5.out).c 3 _ rfl
         go_wp2_with (fail)
         refine (awake_any _ (HT1.out.next HK5.out)).mono ?_
         rintro e w6 ⟨rfl, hb⟩
         have HK6 := Lib.hid (Below.next HK5.out hb)
         clear hb HK5
         go_wp2_with (fail)
         go_ret
         exact ⟨rfl, Below.next HB1.out HK6.out⟩
       · have heq := fun W => (eql_rid a b W).trans (by rw [decide_eq_false hab])
         have hne : nm a ≠ nm b := fun h => hab (nm_inj hrta hrtb h)
         have HRA := Lib.hid hrta; have HRB := Lib.hid hrtb; have HAB := Lib.hid hab; have HNE := Lib.hid hne; have HS := Lib.hid hs2
         clear hrta hrtb hab hne
         have x0 := (HX1.out.next HK1.out).c 0 _ rfl; have x1 := (HX1.out.next HK1.out).c 1 _ rfl; have x2 := (HX1.out.next HK1.out).c 2 _ rfl; have x3 := (HX1.out.next HK1.out).c 3 _ rfl
         go_wp2_with (fail)
         refine (HOF.out a _).mono ?_
         rintro e w2 ⟨rfl, hb⟩
         have HK2 := Lib.hid (Below.next HK1.out hb)
         clear hb HK1 x0 x1 x2 x3
         go_wp2_with (fail)
         refine ((hra _)).mono ?_
         rintro e w3 ⟨rfl, hb⟩
         have HK3 := Lib.hid (Below.next HK2.out hb)
         clear hb HK2
         have y0 := (HY1.out.next HK3.out).c 0 _ rfl; have y1 := (HY1.out.next HK3.out).c 1 _ rfl; have y2 := (HY1.out.next HK3.out).c 2 _ rfl; have y3 := (HY1.out.next HK3.out).c 3 _ rfl
         go_wp2_with (fail)
         refine (HOF.out b _).mono ?_
         rintro e w4 ⟨rfl, hb⟩
         have HK4 := Lib.hid (Below.next HK3.out hb)
         clear hb HK3 y0 y1 y2 y3
         go_wp2_with (fail)
         refine ((hrb _)).mono ?_
         rintro e w5 ⟨rfl, hb⟩
         have HK5 := Lib.hid (Below.next HK4.out hb)
         clear hb HK4
         have x0 := (HX1.out.next HK5.out).c 0 _ rfl; have x1 := (HX1.out.next HK5.out).c 1 _ rfl; have x2 := (HX1.out.next HK5.out).c 2 _ rfl; have x3 := (HX1.out.next HK5.out).c 3 _ rfl
         have y0 := (HY1.out.next HK5.out).c 0 _ rfl; have y1 := (HY1.out.next HK5.out).c 1 _ rfl; have y2 := (HY1.out.next HK5.out).c 2 _ rfl; have y3 := (HY1.out.next HK5.out).c 3 _ rfl
         go_wp2_with (fail)
         refine (mn_new 10000 (by decide) w5).mono ?_
         rintro e w6 ⟨d, rfl, hm0⟩
         have hm : Mn w1 d 10000 [] w6 := by
          obtain ⟨O, h1, h2, h3⟩ := hm0
          exact ⟨O, h1, fun b hb => Nat.le_trans HK5.out.size (h2 b hb), Below.next HK5.out h3⟩
         have HK6 := Lib.hid hm.below
         have HM6 := Lib.hid hm
         clear hm hm0 HK5 x0 x1 x2 x3 y0 y1 y2 y3 heq hra hrb
         have x0 := (HX1.out.next HK6.out).c 0 _ rfl; have x1 := (HX1.out.next HK6.out).c 1 _ rfl; have x2 := (HX1.out.next HK6.out).c 2 _ rfl; have x3 := (HX1.out.next HK6.out).c 3 _ rfl
         go_wp2_with (fail)
         refine (HOF.out a _).mono ?_
         rintro e w7 ⟨rfl, hb⟩
         have HK7 := Lib.hid (Below.next HK6.out hb)
         have HM7 := Lib.hid (HM6.out.next hb)
         clear hb HK6 HM6 x0 x1 x2 x3
         go_wp2_with (fail)
         refine (mn_put a s HM7.out (HT1.out.next HK7.out) HRA.out hs3 (wrt_a HRA.out HS.out)).mono ?_
         rintro e w8 ⟨rfl, hm⟩
         have HK8 := Lib.hid hm.below
         have HM8 := Lib.hid hm
         clear hm HK7 HM7
         have y0 := (HY1.out.next HK8.out).c 0 _ rfl; have y1 := (HY1.out.next HK8.out).c 1 _ rfl; have y2 := (HY1.out.next HK8.out).c 2 _ rfl; have y3 := (HY1.out.next HK8.out).c 3 _ rfl
         go_wp2_with (fail)
         refine (HOF.out b _).mono ?_
         rintro e w9 ⟨rfl, hb⟩
         have HK9 := Lib.hid (Below.next HK8.out hb)
         have HM9 := Lib.hid (HM8.out.next hb)
         clear hb HK8 HM8 y0 y1 y2 y3
         go_wp2_with (fail)
         have hpb := mn_put b (tx [120]) HM9.out (HT1.out.next HK9.out) HRB.out (by rw [tx_size]; decide) (q := (0, Lb a b s.data.toList)) (by rw [tx_list]; exact wrt_b HRA.out HRB.out HS.out)
         refine (hpb).mono ?_
         rintro e w10 ⟨rfl, hm⟩
         have HK10 := Lib.hid hm.below
         have HM10 := Lib.hid hm
         clear hm HK9 HM9 hpb
         have x0 := (HX1.out.next HK10.out).c 0 _ rfl; have x1 := (HX1.out.next HK10.out).c 1 _ rfl; have x2 := (HX1.out.next HK10.out).c 2 _ rfl; have x3 := (HX1.out.next HK10.out).c 3 _ rfl
         go_wp2_with (fail)
         refine (HOF.out a _).mono ?_
         rintro e w11 ⟨rfl, hb⟩
         have HK11 := Lib.hid (Below.next HK10.out hb)
         have HM11 := Lib.hid (HM10.out.next hb)
         clear hb HK10 HM10 x0 x1 x2 x3
         go_wp2_with (fail)
         have hga := mn_get a s.data.toList HM11.out (HT1.out.next HK11.out) HRA.out (by have := HS.out; omega) (gt_a HNE.out)
         rw [tx_of] at hga
         refine (hga).mono ?_
         rintro e w12 ⟨rfl, hm⟩
         have HK12 := Lib.hid hm.below
         have HM12 := Lib.hid hm
         clear hm HK11 HM11 hga
         have hsc := mn_scan HM12.out (HT1.out.next HK12.out) (HE1.out.next HK12.out) (ok_lb HRA.out HRB.out HAB.out HS.out) rfl
         rw [scn_lb HRA.out HRB.out HAB.out HS.out] at hsc
         go_wp2_with (fail)
         refine (hsc).mono ?_
         rintro e w13 ⟨A1, k1, rfl, hi, hm⟩
         have HK13 := Lib.hid hm.below
         have HM13 := Lib.hid hm
         clear hm HK12 HM12 hi hsc
         have x0 := (HX1.out.next HK13.out).c 0 _ rfl; have x1 := (HX1.out.next HK13.out).c 1 _ rfl; have x2 := (HX1.out.next HK13.out).c 2 _ rfl; have x3 := (HX1.out.next HK13.out).c 3 _ rfl
         go_wp2_with (fail)
         refine (HOF.out a _).mono ?_
         rintro e w14 ⟨rfl, hb⟩
         have HK14 := Lib.hid (Below.next HK13.out hb)
         have HM14 := Lib.hid (HM13.out.next hb)
         clear hb HK13 HM13 x0 x1 x2 x3
         go_wp2_with (fail)
         refine (name_any a _ (HT1.out.next HK14.out)).mono ?_
         rintro e w15 ⟨rfl, hb⟩
         have HK15 := Lib.hid (Below.next HK14.out hb)
         have HM15 := Lib.hid (HM14.out.next hb)
         clear hb HK14 HM14
         have hsp := fun o ho => mn_spoil (tx (nm a)) (by rw [tx_size]; have := nm_len a; omega) i y HM15.out (o := o) ho
         rw [tx_list, spo_lb HNE.out] at hsp
         by_cases hy : y = 0
         · have hsp := hsp none (if_pos hy)
           have hy0 : ((y.toNat : Int) == 0) = true := by rw [hy]; rfl
           clear hy
           generalize tx (nm a) = NA at *
           go_wp2_with (fail)
           refine (hsp).mono ?_
           rintro e w16 ⟨rfl, hm⟩
           have HK16 := Lib.hid hm.below
           have HM16 := Lib.hid hm
           clear hm HK15 HM15 hsp
           go_wp2_with (fail)
           go_ret
           exact ⟨rfl, Below.next HB1.out HK16.out⟩
         · have hsp := hsp _ (if_neg hy)
           have HY0 := Lib.hid hy
           clear hy
           generalize tx (nm a) = NA at *
           go_wp2_with (fail)
           refine (hsp).mono ?_
           rintro e w16 ⟨rfl, hm⟩
           have HK16 := Lib.hid hm.below
           have HM16 := Lib.hid hm
           clear hm HK15 HM15 hsp
           replace HM16 : Hid (Mn w1 d 10000 (Lc a b s.data.toList i y) w16) := HM16
           have x0 := (HX1.out.next HK16.out).c 0 _ rfl; have x1 := (HX1.out.next HK16.out).c 1 _ rfl; have x2 := (HX1.out.next HK16.out).c 2 _ rfl; have x3 := (HX1.out.next HK16.out).c 3 _ rfl
           go_wp2_with (fail)
           refine (HOF.out a _).mono ?_
           rintro e w17 ⟨rfl, hb⟩
           have HK17 := Lib.hid (Below.next HK16.out hb)
           have HM17 := Lib.hid (HM16.out.next hb)
           clear hb HK16 HM16 x0 x1 x2 x3
           go_wp2_with (fail)
           have hgb := mn_get_bad a _ 7 HM17.out (HT1.out.next HK17.out) HRA.out (by rw [sp_length]; have := fr_len HRA.out (p := s.data.toList) (by have := HS.out; omega); have := HS.out; omega) (sp_fr a s.data.toList i y HY0.out) (by decide) (gtc_a HNE.out i y)
           refine (hgb).mono ?_
           rintro e w18 ⟨rfl, hm⟩
           have HK18 := Lib.hid hm.below
           have HM18 := Lib.hid hm
           clear hm HK17 HM17 hgb
           have hsc := mn_scan HM18.out (HT1.out.next HK18.out) (HE1.out.next HK18.out) (ok_lc HRA.out HRB.out HAB.out HS.out i HY0.out) (scn_lc HRA.out HRB.out HAB.out i HY0.out HM18.out.srt)
           go_wp2_with (fail)
           refine (hsc).mono ?_
           rintro e w19 ⟨A2, k2, rfl, hi, hm⟩
           have HK19 := Lib.hid hm.below
           have HM19 := Lib.hid hm
           clear hm HK18 HM18 hsc
           obtain ⟨G, P, rfl, hids⟩ := ids_one hi
           have HID : Hid (∀ W : World, Below w19.heap.size w19 W → _) := Lib.hid hids
           have HK0 : Hid (Below w19.heap.size w19 w19) := Below.refl _ _
           clear hi hids
           have y0 := (HY1.out.next HK19.out).c 0 _ rfl; have y1 := (HY1.out.next HK19.out).c 1 _ rfl; have y2 := (HY1.out.next HK19.out).c 2 _ rfl; have y3 := (HY1.out.next HK19.out).c 3 _ rfl
           go_wp2_with (fail)
           refine (HOF.out b _).mono ?_
           rintro e w20 ⟨rfl, hb⟩
           have HK20 := Lib.hid (Below.next HK19.out hb)
           have HM20 := Lib.hid (HM19.out.next hb)
           have HZ := Lib.hid (Below.next HK0.out hb)
           clear hb HK19 HM19 HK0 y0 y1 y2 y3
           go_wp2_with (fail)
           obtain ⟨O, hO1, hO2, hO3⟩ := HM20.out
           have hgt := get_yes b [120] w20 hO1 (HT1.out.next HK20.out) HRB.out (by decide) (gtc_b HNE.out i y)
           have hxs : ((tx [120]).toList == [120]) = true := by rw [ByteArray.toList_eq, tx_list]; rfl
           clear hO1 hO2 hO3
           generalize tx [120] = XS at *
           refine hgt.mono ?_
           rintro e w21 ⟨rfl, hb⟩
           have HK21 := Lib.hid (Below.next HK20.out hb)
           have HZ2 := Lib.hid (Below.next HZ.out hb)
           clear hb hgt HZ HK20 HM20
           have g0 := fun q : Over w21 => (HID.out q.val (Below.next HZ2.out q.property)).1
           have g1 := fun q : Over w21 => (HID.out q.val (Below.next HZ2.out q.property)).2.1
           have g2 := fun q : Over w21 => (HID.out q.val (Below.next HZ2.out q.property)).2.2.1
           have g3 := fun q : Over w21 => (HID.out q.val (Below.next HZ2.out q.property)).2.2.2
           have b0 := fun q : Over w21 => (HY1.out.next (Below.next HK21.out q.property)).c 0 _ rfl
           have b1 := fun q : Over w21 => (HY1.out.next (Below.next HK21.out q.property)).c 1 _ rfl
           have b2 := fun q : Over w21 => (HY1.out.next (Below.next HK21.out q.property)).c 2 _ rfl
           have b3 := fun q : Over w21 => (HY1.out.next (Below.next HK21.out q.property)).c 3 _ rfl
           have heq := fun W => (eql_id b b W).trans (by rw [decide_eq_true rfl])
           have HOB := Lib.hid (fun q : Over w21 => over_gives q (lof_any b q.val))
           go_upto_region 14 with (fail)
           refine wp_over (by kernel_rfl) (by kernel_rfl) ?_
           repeat (go_big_quiet_step (first | fail | with_reducible exact HOB.out _))
           refine wpQuiet_nil ?_
           rintro wz ⟨⟨wz, hb⟩, rfl⟩
           have HBZ := Lib.hid (Below.next HB1.out (Below.next HK21.out hb))
           clear hb g0 g1 g2 g3 b0 b1 b2 b3 HOB
           go_wp2_with (fail)
           go_ret
           exact ⟨rfl, HBZ.out⟩
end Go.Proofs.YtchmepalhldpcaaGreatDoor.Fr
