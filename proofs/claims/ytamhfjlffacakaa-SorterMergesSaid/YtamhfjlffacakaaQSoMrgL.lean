/-
  A text of this claim: SoMrgL.
-/
import Derived.Test.YtamhfjlffacakaaQ6
import Derived.Test.YtamhfjlffacakaaQSoDFold
import Derived.Test.YtamhfjlffacakaaQ4
import Derived.Test.YtamhfjlffacakaaQPrRef
namespace Go.Proofs.Ytamhfjlffacakaa.So
open Go.ChangeShapes Go.WideShapes Go.ChangeAt Go.RowKit Go.Sort Go.Shelf Go.Proofs Ov Va St Pr Jo
set_option maxRecDepth 100000 in
set_option maxHeartbeats 8000000 in
theorem merges_core (A0 : Option Addr) (c0 : Nat) (la : List Pr) (A1 : Option Addr) (c1 : Nat) (lb : List Pr) (A2 : Option Addr) (c2 : Nat) (lc : List Pr) (cw : ByteArray) (w : World) (ha : PIn w (A0, c0, la)) (hb : PIn w (A1, c1, lb)) (hc : PIn w (A2, c2, lc)) (hca : la.length ≤ c0) (hcb : lb.length ≤ c1) (hcc : lc.length ≤ c2) :
 Calls Try.prog 4 #[.slice A0 la.length c0, .slice A1 lb.length c1, .slice A2 lc.length c2, .string cw] w (Gives (.bool true) w) := by
 have HA := Lib.hid ha; have HBB := Lib.hid hb; have HC := Lib.hid hc
 clear ha hb hc
 go_enter Try.func4, Try.ntmps4
 go_wp2_with (fail)
 refine (awake12_any w).mono ?_
 rintro e a1 ⟨rfl, hb⟩
 have HB := Lib.hid hb; clear hb
 have hsm := small_any A0 c0 la a1 ((HA.out.next HB.out).1)
 go_wp2_with (fail)
 refine hsm.mono ?_
 rintro e a2 ⟨q, rfl, hb, hq⟩
 replace HB := Lib.hid (Below.next HB.out hb); clear hb hsm
 rcases hq with rfl | ⟨rfl, hlla, hx⟩
 · go_wp2_with (fail)
   refine (awake12_any _).mono ?_
   rintro e u1 ⟨rfl, hb⟩
   replace HB := Lib.hid (Below.next HB.out hb); clear hb
   go_wp2_with (fail)
   go_ret
   exact ⟨rfl, HB.out⟩
 have HXA := Lib.hid hx; clear hx
 have hsm := small_any A1 c1 lb a2 ((HBB.out.next HB.out).1)
 go_wp2_with (fail)
 refine hsm.mono ?_
 rintro e a3 ⟨q, rfl, hb, hq⟩
 replace HB := Lib.hid (Below.next HB.out hb); clear hb hsm
 rcases hq with rfl | ⟨rfl, hllb, hx⟩
 · go_wp2_with (fail)
   refine (awake12_any _).mono ?_
   rintro e u1 ⟨rfl, hb⟩
   replace HB := Lib.hid (Below.next HB.out hb); clear hb
   go_wp2_with (fail)
   go_ret
   exact ⟨rfl, HB.out⟩
 have HXB := Lib.hid hx; clear hx
 have hsm := small_any A2 c2 lc a3 ((HC.out.next HB.out).1)
 go_wp2_with (fail)
 refine hsm.mono ?_
 rintro e a4 ⟨q, rfl, hb, hq⟩
 replace HB := Lib.hid (Below.next HB.out hb); clear hb hsm
 rcases hq with rfl | ⟨rfl, hllc, hx⟩
 · go_wp2_with (fail)
   refine (awake12_any _).mono ?_
   rintro e u1 ⟨rfl, hb⟩
   replace HB := Lib.hid (Below.next HB.out hb); clear hb
   go_wp2_with (fail)
   go_ret
   exact ⟨rfl, HB.out⟩
 have HXC := Lib.hid hx; clear hx
 have HTA : Hid (Tx la) := fun p hp => by have := HXA.out p hp; omega
 have HTB : Hid (Tx lb) := fun p hp => by have := HXB.out p hp; omega
 have HTC : Hid (Tx lc) := fun p hp => by have := HXC.out p hp; omega
 clear HXA HXB HXC
 go_wp2_with (at_builtin; refine wp_append_part rfl _ _ rfl w.heap.size _ [] rfl ⟨rfl, .inl ⟨rfl, rfl⟩⟩ (A0, c0, la) (HA.out.next HB.out) rfl (by simp; omega) HB.out.size ?_)
 intro v1 b1 hown hg
 have HO := Lib.hid hown
 replace HB := Lib.hid (HB.out.grown hg HB.out.size (fun k e => nomatch e))
 clear hown hg
 go_wp2_with (at_builtin; refine wp_append_part rfl _ _ rfl w.heap.size _ la rfl HO.out (A1, c1, lb) (HBB.out.next HB.out) rfl (by simp; omega) HB.out.size ?_)
 intro v2 b2 hown hg
 replace HB := Lib.hid (HB.out.grown hg HB.out.size (fun g e => (HO.out.lt g e).1))
 replace HO : Hid (b2.ownsRow w.heap.size 35 6 v2 (la ++ lb).length (pcells (la ++ lb))) := by
  show World.ownsRow _ _ _ _ _ _ _
  rw [List.length_append]; exact hown
 clear hown hg
 go_wp2_with (at_builtin; refine wp_append_part rfl _ _ rfl w.heap.size _ (la ++ lb) rfl HO.out (A2, c2, lc) (HC.out.next HB.out) rfl (by simp; omega) HB.out.size ?_)
 intro v3 b3 hown hg
 replace HB := Lib.hid (HB.out.grown hg HB.out.size (fun g e => (HO.out.lt g e).1))
 clear HO hg
 replace hown : b3.ownsRow w.heap.size 35 6 v3 (la ++ lb ++ lc).length (pcells (la ++ lb ++ lc)) := by
  rw [List.length_append, List.length_append]; first | exact hown | (rw [List.append_assoc]; exact hown) | (rw [List.append_assoc, Nat.add_assoc]; exact hown)
 obtain ⟨A4, c4, rfl, hp4⟩ := own_pin hown
 have H4 := Lib.hid hp4
 clear hown hp4
 have HN : Hid ((la ++ lb ++ lc).length ≤ 300) := by show _ ≤ _; rw [List.length_append, List.length_append]; omega
 have HF : Hid ((rsOf [(A0, c0, la), (A1, c1, lb), (A2, c2, lc)]).flatten = la ++ lb ++ lc) := by show _ = _; simp [rsOf]
 generalize la ++ lb ++ lc = L at *
 have hN := HN.out
 by_cases oa : Od la
 case neg =>
  have OA := Lib.hid oa; clear oa
  have hs := rsort_any A0 c0 la b3 ((HA.out.next HB.out).1) (by omega)
  go_wp2_with (fail)
  refine hs.mono ?_
  rintro e d1 ⟨v, rfl, hr, hb⟩
  obtain ⟨As, cs, rfl, hp⟩ := own_pin (l := sr la) (by rw [sr_len]; exact hr)
  have HS := Lib.hid hp.1
  replace HB := Lib.hid (Below.next HB.out hb); clear hb hs hr hp
  have hsa := samepairs_any la (sr la) A0 As c0 cs d1 ((HA.out.next HB.out).1) HS.out (by omega)
  go_wp2_with (fail)
  refine hsa.mono ?_
  rintro e d2 ⟨b, rfl, hq, hb⟩
  replace HB := Lib.hid (Below.next HB.out hb); clear hb hsa HS
  have hb0 : b = false := (by cases b with | false => rfl | true => exact absurd ((od_sr la).1 (hq.1 rfl)) OA.out)
  subst hb0
  clear hq
  have hl3 := lln3 d2 (HA.out.next HB.out) (HBB.out.next HB.out) (HC.out.next HB.out) 22
  have hm := merge_no (some ⟨d2.heap.size, 0, none⟩) 3 [(A0, c0, la), (A1, c1, lb), (A2, c2, lc)] (d2.alloc (.cells ([(A0, c0, la), (A1, c1, lb), (A2, c2, lc)].map pv).toArray 22)) hl3 (by simp) (fun i hi => by
   have hi' : i < 3 := hi
   match i, hi' with
   | 0, _ => show la.length ≤ 100000; omega
   | 1, _ => show lb.length ≤ 100000; omega
   | 2, _ => show lc.length ≤ 100000; omega) ⟨0, by simp, OA.out⟩
  have hb1 := box1 d2 (.cells ([(A0, c0, la), (A1, c1, lb), (A2, c2, lc)].map pv).toArray 22)
  replace HB := Lib.hid (Below.next HB.out hb1); clear hb1 hl3
  have HM := Lib.hid hm; clear hm
  go_wp2_with (fail)
  refine HM.out.mono ?_
  rintro e d3 ⟨rfl, hb⟩
  replace HB := Lib.hid (Below.next HB.out hb); clear hb HM
  have hf := sfold_no A0 c0 la cw d3 (HA.out.next HB.out) (by omega) OA.out
  go_wp2_with (fail)
  refine hf.mono ?_
  rintro e d4 ⟨rfl, hb⟩
  replace HB := Lib.hid (Below.next HB.out hb); clear hb hf
  have hs := rsort_any A0 c0 la d4 ((HA.out.next HB.out).1) (by omega)
  go_wp2_with (fail)
  refine hs.mono ?_
  rintro e d5 ⟨v, rfl, hr, hb⟩
  obtain ⟨As, cs, rfl, hp⟩ := own_pin (l := sr la) (by rw [sr_len]; exact hr)
  have HS := Lib.hid hp.1
  replace HB := Lib.hid (Below.next HB.out hb); clear hb hs hr hp
  have hsa := samepairs_any la (sr la) A0 As c0 cs d5 ((HA.out.next HB.out).1) HS.out (by omega)
  go_wp2_with (fail)
  refine hsa.mono ?_
  rintro e d6 ⟨b, rfl, hq, hb⟩
  replace HB := Lib.hid (Below.next HB.out hb); clear hb hsa HS
  have hb0 : b = false := (by cases b with | false => rfl | true => exact absurd ((od_sr la).1 (hq.1 rfl)) OA.out)
  subst hb0
  clear hq
  go_wp2_with (fail)
  go_ret
  exact ⟨rfl, HB.out⟩
 have OA := Lib.hid oa; clear oa
 have hs := rsort_any A0 c0 la b3 ((HA.out.next HB.out).1) (by omega)
 go_wp2_with (fail)
 refine hs.mono ?_
 rintro e d7 ⟨v, rfl, hr, hb⟩
 obtain ⟨As, cs, rfl, hp⟩ := own_pin (l := sr la) (by rw [sr_len]; exact hr)
 have HS := Lib.hid hp.1
 replace HB := Lib.hid (Below.next HB.out hb); replace H4 := Lib.hid (H4.out.next hb); clear hb hs hr hp
 have hsa := samepairs_any la (sr la) A0 As c0 cs d7 ((HA.out.next HB.out).1) HS.out (by omega)
 go_wp2_with (fail)
 refine hsa.mono ?_
 rintro e d8 ⟨b, rfl, hq, hb⟩
 replace HB := Lib.hid (Below.next HB.out hb); replace H4 := Lib.hid (H4.out.next hb); clear hb hsa HS
 obtain rfl : b = true := hq.2 ((od_sr la).2 OA.out)
 clear hq
 by_cases ob : Od lb
 case neg =>
  have OB := Lib.hid ob; clear ob
  have hs := rsort_any A1 c1 lb d8 ((HBB.out.next HB.out).1) (by omega)
  go_wp2_with (fail)
  refine hs.mono ?_
  rintro e d9 ⟨v, rfl, hr, hb⟩
  obtain ⟨As, cs, rfl, hp⟩ := own_pin (l := sr lb) (by rw [sr_len]; exact hr)
  have HS := Lib.hid hp.1
  replace HB := Lib.hid (Below.next HB.out hb); clear hb hs hr hp
  have hsa := samepairs_any lb (sr lb) A1 As c1 cs d9 ((HBB.out.next HB.out).1) HS.out (by omega)
  go_wp2_with (fail)
  refine hsa.mono ?_
  rintro e d10 ⟨b, rfl, hq, hb⟩
  replace HB := Lib.hid (Below.next HB.out hb); clear hb hsa HS
  have hb0 : b = false := (by cases b with | false => rfl | true => exact absurd ((od_sr lb).1 (hq.1 rfl)) OB.out)
  subst hb0
  clear hq
  have hl3 := lln3 d10 (HA.out.next HB.out) (HBB.out.next HB.out) (HC.out.next HB.out) 22
  have hm := merge_no (some ⟨d10.heap.size, 0, none⟩) 3 [(A0, c0, la), (A1, c1, lb), (A2, c2, lc)] (d10.alloc (.cells ([(A0, c0, la), (A1, c1, lb), (A2, c2, lc)].map pv).toArray 22)) hl3 (by simp) (fun i hi => by
   have hi' : i < 3 := hi
   match i, hi' with
   | 0, _ => show la.length ≤ 100000; omega
   | 1, _ => show lb.length ≤ 100000; omega
   | 2, _ => show lc.length ≤ 100000; omega) ⟨1, by simp, OB.out⟩
  have hb1 := box1 d10 (.cells ([(A0, c0, la), (A1, c1, lb), (A2, c2, lc)].map pv).toArray 22)
  replace HB := Lib.hid (Below.next HB.out hb1); clear hb1 hl3
  have HM := Lib.hid hm; clear hm
  go_wp2_with (fail)
  refine HM.out.mono ?_
  rintro e d11 ⟨rfl, hb⟩
  replace HB := Lib.hid (Below.next HB.out hb); clear hb HM
  have hf := sfold_any A0 c0 la cw d11 (HA.out.next HB.out) (by omega) HTA.out OA.out
  go_wp2_with (fail)
  refine hf.mono ?_
  rintro e d12 hq
  obtain ⟨Ay, cy, my, ey, rfl, hpy, hb, hly, hdf⟩ := foldQ_df OA.out hq
  have H7 := Lib.hid hpy; have HDF := Lib.hid hdf
  replace HB := Lib.hid (Below.next HB.out hb); clear hb hf hq hpy hdf
  have hs := rsort_any A0 c0 la d12 ((HA.out.next HB.out).1) (by omega)
  go_wp2_with (fail)
  refine hs.mono ?_
  rintro e d13 ⟨v, rfl, hr, hb⟩
  obtain ⟨As, cs, rfl, hp⟩ := own_pin (l := sr la) (by rw [sr_len]; exact hr)
  have HS := Lib.hid hp.1
  replace HB := Lib.hid (Below.next HB.out hb); replace H7 := Lib.hid (H7.out.next hb); clear hb hs hr hp
  have hsa := samepairs_any la (sr la) A0 As c0 cs d13 ((HA.out.next HB.out).1) HS.out (by omega)
  go_wp2_with (fail)
  refine hsa.mono ?_
  rintro e d14 ⟨b, rfl, hq, hb⟩
  replace HB := Lib.hid (Below.next HB.out hb); replace H7 := Lib.hid (H7.out.next hb); clear hb hsa HS
  obtain rfl : b = true := hq.2 ((od_sr la).2 OA.out)
  clear hq
  have hd := rsfold_any A0 c0 la cw d14 ((HA.out.next HB.out).1) (by omega)
  rw [HDF.out] at hd
  go_wp2_with (fail)
  refine hd.mono ?_
  rintro e d15 ⟨v, rfl, hr, hb⟩
  obtain ⟨Az, cz, rfl, hp⟩ := own_pin hr
  have H8 := Lib.hid hp
  replace HB := Lib.hid (Below.next HB.out hb); replace H7 := Lib.hid (H7.out.next hb); clear hb hd hr hp
  have hee : (ey == ey) = true := beq_self_eq_true _
  have hsa := same_pairs my Ay Az cy cz d15 H7.out.1 H8.out.1 (by omega)
  go_wp2_with (fail)
  refine hsa.mono ?_
  rintro e d16 ⟨rfl, hb⟩
  replace HB := Lib.hid (Below.next HB.out hb); clear hb hsa
  go_wp2_with (fail)
  go_ret
  exact ⟨rfl, HB.out⟩
 have OB := Lib.hid ob; clear ob
 have hs := rsort_any A1 c1 lb d8 ((HBB.out.next HB.out).1) (by omega)
 go_wp2_with (fail)
 refine hs.mono ?_
 rintro e d17 ⟨v, rfl, hr, hb⟩
 obtain ⟨As, cs, rfl, hp⟩ := own_pin (l := sr lb) (by rw [sr_len]; exact hr)
 have HS := Lib.hid hp.1
 replace HB := Lib.hid (Below.next HB.out hb); replace H4 := Lib.hid (H4.out.next hb); clear hb hs hr hp
 have hsa := samepairs_any lb (sr lb) A1 As c1 cs d17 ((HBB.out.next HB.out).1) HS.out (by omega)
 go_wp2_with (fail)
 refine hsa.mono ?_
 rintro e d18 ⟨b, rfl, hq, hb⟩
 replace HB := Lib.hid (Below.next HB.out hb); replace H4 := Lib.hid (H4.out.next hb); clear hb hsa HS
 obtain rfl : b = true := hq.2 ((od_sr lb).2 OB.out)
 clear hq
 by_cases oc : Od lc
 case neg =>
  have OC := Lib.hid oc; clear oc
  have hs := rsort_any A2 c2 lc d18 ((HC.out.next HB.out).1) (by omega)
  go_wp2_with (fail)
  refine hs.mono ?_
  rintro e d19 ⟨v, rfl, hr, hb⟩
  obtain ⟨As, cs, rfl, hp⟩ := own_pin (l := sr lc) (by rw [sr_len]; exact hr)
  have HS := Lib.hid hp.1
  replace HB := Lib.hid (Below.next HB.out hb); clear hb hs hr hp
  have hsa := samepairs_any lc (sr lc) A2 As c2 cs d19 ((HC.out.next HB.out).1) HS.out (by omega)
  go_wp2_with (fail)
  refine hsa.mono ?_
  rintro e d20 ⟨b, rfl, hq, hb⟩
  replace HB := Lib.hid (Below.next HB.out hb); clear hb hsa HS
  have hb0 : b = false := (by cases b with | false => rfl | true => exact absurd ((od_sr lc).1 (hq.1 rfl)) OC.out)
  subst hb0
  clear hq
  have hl3 := lln3 d20 (HA.out.next HB.out) (HBB.out.next HB.out) (HC.out.next HB.out) 22
  have hm := merge_no (some ⟨d20.heap.size, 0, none⟩) 3 [(A0, c0, la), (A1, c1, lb), (A2, c2, lc)] (d20.alloc (.cells ([(A0, c0, la), (A1, c1, lb), (A2, c2, lc)].map pv).toArray 22)) hl3 (by simp) (fun i hi => by
   have hi' : i < 3 := hi
   match i, hi' with
   | 0, _ => show la.length ≤ 100000; omega
   | 1, _ => show lb.length ≤ 100000; omega
   | 2, _ => show lc.length ≤ 100000; omega) ⟨2, by simp, OC.out⟩
  have hb1 := box1 d20 (.cells ([(A0, c0, la), (A1, c1, lb), (A2, c2, lc)].map pv).toArray 22)
  replace HB := Lib.hid (Below.next HB.out hb1); clear hb1 hl3
  have HM := Lib.hid hm; clear hm
  go_wp2_with (fail)
  refine HM.out.mono ?_
  rintro e d21 ⟨rfl, hb⟩
  replace HB := Lib.hid (Below.next HB.out hb); clear hb HM
  have hf := sfold_any A0 c0 la cw d21 (HA.out.next HB.out) (by omega) HTA.out OA.out
  go_wp2_with (fail)
  refine hf.mono ?_
  rintro e d22 hq
  obtain ⟨Ay, cy, my, ey, rfl, hpy, hb, hly, hdf⟩ := foldQ_df OA.out hq
  have H7 := Lib.hid hpy; have HDF := Lib.hid hdf
  replace HB := Lib.hid (Below.next HB.out hb); clear hb hf hq hpy hdf
  have hs := rsort_any A0 c0 la d22 ((HA.out.next HB.out).1) (by omega)
  go_wp2_with (fail)
  refine hs.mono ?_
  rintro e d23 ⟨v, rfl, hr, hb⟩
  obtain ⟨As, cs, rfl, hp⟩ := own_pin (l := sr la) (by rw [sr_len]; exact hr)
  have HS := Lib.hid hp.1
  replace HB := Lib.hid (Below.next HB.out hb); replace H7 := Lib.hid (H7.out.next hb); clear hb hs hr hp
  have hsa := samepairs_any la (sr la) A0 As c0 cs d23 ((HA.out.next HB.out).1) HS.out (by omega)
  go_wp2_with (fail)
  refine hsa.mono ?_
  rintro e d24 ⟨b, rfl, hq, hb⟩
  replace HB := Lib.hid (Below.next HB.out hb); replace H7 := Lib.hid (H7.out.next hb); clear hb hsa HS
  obtain rfl : b = true := hq.2 ((od_sr la).2 OA.out)
  clear hq
  have hd := rsfold_any A0 c0 la cw d24 ((HA.out.next HB.out).1) (by omega)
  rw [HDF.out] at hd
  go_wp2_with (fail)
  refine hd.mono ?_
  rintro e d25 ⟨v, rfl, hr, hb⟩
  obtain ⟨Az, cz, rfl, hp⟩ := own_pin hr
  have H8 := Lib.hid hp
  replace HB := Lib.hid (Below.next HB.out hb); replace H7 := Lib.hid (H7.out.next hb); clear hb hd hr hp
  have hee : (ey == ey) = true := beq_self_eq_true _
  have hsa := same_pairs my Ay Az cy cz d25 H7.out.1 H8.out.1 (by omega)
  go_wp2_with (fail)
  refine hsa.mono ?_
  rintro e d26 ⟨rfl, hb⟩
  replace HB := Lib.hid (Below.next HB.out hb); clear hb hsa
  go_wp2_with (fail)
  go_ret
  exact ⟨rfl, HB.out⟩
 have OC := Lib.hid oc; clear oc
 have hs := rsort_any A2 c2 lc d18 ((HC.out.next HB.out).1) (by omega)
 go_wp2_with (fail)
 refine hs.mono ?_
 rintro e d27 ⟨v, rfl, hr, hb⟩
 obtain ⟨As, cs, rfl, hp⟩ := own_pin (l := sr lc) (by rw [sr_len]; exact hr)
 have HS := Lib.hid hp.1
 replace HB := Lib.hid (Below.next HB.out hb); replace H4 := Lib.hid (H4.out.next hb); clear hb hs hr hp
 have hsa := samepairs_any lc (sr lc) A2 As c2 cs d27 ((HC.out.next HB.out).1) HS.out (by omega)
 go_wp2_with (fail)
 refine hsa.mono ?_
 rintro e d28 ⟨b, rfl, hq, hb⟩
 replace HB := Lib.hid (Below.next HB.out hb); replace H4 := Lib.hid (H4.out.next hb); clear hb hsa HS
 obtain rfl : b = true := hq.2 ((od_sr lc).2 OC.out)
 clear hq
 have hl3 := lln3 d28 (HA.out.next HB.out) (HBB.out.next HB.out) (HC.out.next HB.out) 22
 have hm := merge_yes (some ⟨d28.heap.size, 0, none⟩) 3 [(A0, c0, la), (A1, c1, lb), (A2, c2, lc)] (d28.alloc (.cells ([(A0, c0, la), (A1, c1, lb), (A2, c2, lc)].map pv).toArray 22)) hl3 (rk3 hca hcb hcc (by omega) (by omega) (by omega) HTA.out HTB.out HTC.out OA.out OB.out OC.out (Nat.le_refl _)) (by rw [HF.out]; omega)
 rw [HF.out] at hm
 have hb1 := box1 d28 (.cells ([(A0, c0, la), (A1, c1, lb), (A2, c2, lc)].map pv).toArray 22)
 replace HB := Lib.hid (Below.next HB.out hb1); replace H4 := Lib.hid (H4.out.next hb1); clear hb1 hl3
 have HM := Lib.hid hm; clear hm
 go_wp2_with (fail)
 refine HM.out.mono ?_
 rintro e d29 ⟨v, rfl, hr, hb⟩
 obtain ⟨Ax, cx, rfl, hp⟩ := own_pin (l := sr L) (by rw [sr_len]; exact hr)
 have H5 := Lib.hid hp
 replace HB := Lib.hid (Below.next HB.out hb); replace H4 := Lib.hid (H4.out.next hb); clear hb HM hr hp
 have hs := rsort_any A4 c4 L d29 H4.out.1 (by omega)
 go_wp2_with (fail)
 refine hs.mono ?_
 rintro e d30 ⟨v, rfl, hr, hb⟩
 obtain ⟨As, cs, rfl, hp⟩ := own_pin (l := sr L) (by rw [sr_len]; exact hr)
 have H6 := Lib.hid hp
 replace HB := Lib.hid (Below.next HB.out hb); replace H5 := Lib.hid (H5.out.next hb); clear hb hs hr hp
 have hsa := same_pairs (sr L) Ax As cx cs d30 H5.out.1 H6.out.1 (by rw [sr_len]; omega)
 go_wp2_with (fail)
 refine hsa.mono ?_
 rintro e d31 ⟨rfl, hb⟩
 replace HB := Lib.hid (Below.next HB.out hb); clear hb hsa H5 H6
 have hf := sfold_any A0 c0 la cw d31 (HA.out.next HB.out) (by omega) HTA.out OA.out
 go_wp2_with (fail)
 refine hf.mono ?_
 rintro e d32 hq
 obtain ⟨Ay, cy, my, ey, rfl, hpy, hb, hly, hdf⟩ := foldQ_df OA.out hq
 have H7 := Lib.hid hpy; have HDF := Lib.hid hdf
 replace HB := Lib.hid (Below.next HB.out hb); clear hb hf hq hpy hdf
 have hs := rsort_any A0 c0 la d32 ((HA.out.next HB.out).1) (by omega)
 go_wp2_with (fail)
 refine hs.mono ?_
 rintro e d33 ⟨v, rfl, hr, hb⟩
 obtain ⟨As, cs, rfl, hp⟩ := own_pin (l := sr la) (by rw [sr_len]; exact hr)
 have HS := Lib.hid hp.1
 replace HB := Lib.hid (Below.next HB.out hb); replace H7 := Lib.hid (H7.out.next hb); clear hb hs hr hp
 have hsa := samepairs_any la (sr la) A0 As c0 cs d33 ((HA.out.next HB.out).1) HS.out (by omega)
 go_wp2_with (fail)
 refine hsa.mono ?_
 rintro e d34 ⟨b, rfl, hq, hb⟩
 replace HB := Lib.hid (Below.next HB.out hb); replace H7 := Lib.hid (H7.out.next hb); clear hb hsa HS
 obtain rfl : b = true := hq.2 ((od_sr la).2 OA.out)
 clear hq
 have hd := rsfold_any A0 c0 la cw d34 ((HA.out.next HB.out).1) (by omega)
 rw [HDF.out] at hd
 go_wp2_with (fail)
 refine hd.mono ?_
 rintro e d35 ⟨v, rfl, hr, hb⟩
 obtain ⟨Az, cz, rfl, hp⟩ := own_pin hr
 have H8 := Lib.hid hp
 replace HB := Lib.hid (Below.next HB.out hb); replace H7 := Lib.hid (H7.out.next hb); clear hb hd hr hp
 have hee : (ey == ey) = true := beq_self_eq_true _
 have hsa := same_pairs my Ay Az cy cz d35 H7.out.1 H8.out.1 (by omega)
 go_wp2_with (fail)
 refine hsa.mono ?_
 rintro e d36 ⟨rfl, hb⟩
 replace HB := Lib.hid (Below.next HB.out hb); clear hb hsa
 go_wp2_with (fail)
 go_ret
 exact ⟨rfl, HB.out⟩
end Go.Proofs.Ytamhfjlffacakaa.So
