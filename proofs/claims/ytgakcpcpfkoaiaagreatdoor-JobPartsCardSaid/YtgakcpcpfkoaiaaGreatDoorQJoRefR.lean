/-
  A text of this claim: JoRefR.
-/
import Derived.Test.YtgakcpcpfkoaiaaGreatDoorQ1
import Derived.Test.YtgakcpcpfkoaiaaGreatDoorQ9
import Derived.Test.YtgakcpcpfkoaiaaGreatDoorQ6
import Derived.Deep.CutRange
import Derived.Deep.Cut
set_option maxHeartbeats 2000000
set_option maxRecDepth 100000
namespace Go.Proofs.YtgakcpcpfkoaiaaGreatDoor.Jo
open Go.ChangeShapes Go.WideShapes Go.ChangeAt Go.RowKit Ov Va Ex Ev
theorem emp {l:List No} (h:l.length=0):l.isEmpty=true:=by obtain rfl:=List.eq_nil_of_length_eq_zero h;rfl
theorem ne_emp {l:List No} (h:¬ l.length=0):l.isEmpty=false:=by
 cases l with
 | nil=>exact absurd rfl h
 | cons _ _=>rfl
theorem hs_dh {l:List No} (h:(l.isEmpty || Rt l)=true) (i:Nat):l.any (dh 1 (i:Int))=hs l i:=by
 have e:l.any (dh 1 (i:Int))=hasN l l.length i:=by
  unfold hasN;rw [List.take_length]
  have e1:dh 1 (i:Int)=fun n=>n.o == 1 && n.v.n == (i:Int):=by
   funext n
   unfold dh;rw [decide_eq_false (show ¬ (i:Int)<0 by omega),Bool.false_or]
  rw [e1]
 rw [e];unfold hs
 cases hr:Rt l
 · rw [hr,Bool.or_false] at h
   rw [List.isEmpty_iff.1 h];rfl
 · rfl
theorem em_dh (l:List No):l.any (dh 26 (-1))=em l:=by
 have e:dh 26 (-1)=fun n=>n.o == 26:=by
  funext n
  unfold dh;rw [decide_eq_true (by omega),Bool.true_or,Bool.and_true]
 rw [e];rfl
theorem jr_nm {j:Jb} (h:nmOk j.nm=false):jr j=11:=by unfold jr;rw [if_pos h]
theorem jr_num {j:Jb} (h1:nmOk j.nm=true) (h:numOk j=false):jr j=14:=by unfold jr;rw [h1,if_neg (by simp),if_pos h]
theorem jr_ex {j:Jb} (h1:nmOk j.nm=true) (h2:numOk j=true) (h:(exOk j && fdOk j)=false):jr j=1:=by unfold jr;rw [h1,h2,if_neg (by simp),if_neg (by simp),if_pos h]
theorem jr_wd {j:Jb} (h1:nmOk j.nm=true) (h2:numOk j=true) (h3:(exOk j && fdOk j)=true) (h:wdOk j=false):jr j=10:=by unfold jr;rw [h1,h2,h3,if_neg (by simp),if_neg (by simp),if_neg (by simp),if_pos h]
theorem jr_st {j:Jb} (h1:nmOk j.nm=true) (h2:numOk j=true) (h3:(exOk j && fdOk j)=true) (h4:wdOk j=true) (h:(j.cb && j.fd.isEmpty)=true):jr j=19:=by unfold jr;rw [h1,h2,h3,h4,if_neg (by simp),if_neg (by simp),if_neg (by simp),if_neg (by simp),if_pos h]
theorem nmOk_none {l:List UInt8} (h:l.length=0):nmOk l=false:=by
 obtain rfl:=List.eq_nil_of_length_eq_zero h;rfl
theorem nmOk_long {l:List UInt8} (h:16<l.length):nmOk l=false:=by
 unfold nmOk;rw [decide_eq_false (by omega)];simp
theorem wn1_lo {n most:Int} (h:n<1):wn1 n most=false:=by unfold wn1;rw [decide_eq_false (by omega),Bool.false_and]
theorem wn1_hi {n most:Int} (h:most<n):wn1 n most=false:=by unfold wn1;rw [decide_eq_false (show ¬ n≤most by omega),Bool.and_false]
theorem rright_any (j:Jb) (A1:Option Addr) (c1:Nat) (A2:Option Addr) (c2:Nat) (A3:Option Addr) (c3:Nat) (w:World) (hj:JL w j A1 A2 A3) (hl:j.nm.length≤9223372036854775807):Calls Tryz.prog 10 #[.agg #[.string (tx j.nm),.int .i64 j.t,.int .i64 j.p,.int .i64 j.k,.int .i64 j.n,.int .i64 j.f,.slice A1 j.m.length c1,.slice A2 j.b.length c2,.slice A3 j.r.length c3,.string (tx j.fd),.bool j.cb]] w (Gives (.int .i64 (jr j)) w):=by
 have HJL:=qq hj;clear hj
 have HJ:=qq (made11 w 24 (.string (tx j.nm)) (.int .i64 j.t) (.int .i64 j.p) (.int .i64 j.k) (.int .i64 j.n) (.int .i64 j.f) (.slice A1 j.m.length c1) (.slice A2 j.b.length c2) (.slice A3 j.r.length c3) (.string (tx j.fd)) (.bool j.cb))
 have HB:=qq (box1 w (.cells #[.string (tx j.nm),.int .i64 j.t,.int .i64 j.p,.int .i64 j.k,.int .i64 j.n,.int .i64 j.f,.slice A1 j.m.length c1,.slice A2 j.b.length c2,.slice A3 j.r.length c3,.string (tx j.fd),.bool j.cb] 24))
 go_enter Tryz.func10,Tryz.ntmps10
 go_upto_region 1 with (fail)
 generalize w.alloc (.cells #[.string (tx j.nm),.int .i64 j.t,.int .i64 j.p,.int .i64 j.k,.int .i64 j.n,.int .i64 j.f,.slice A1 j.m.length c1,.slice A2 j.b.length c2,.slice A3 j.r.length c3,.string (tx j.fd),.bool j.cb] 24)=v at *
 obtain ⟨e0,e1,e2,e3,e4,e5,e6,e7,e8,e9,e10⟩:=elev HJ.out
 have hs:(tx j.nm).size=j.nm.length:=tx_size j.nm
 have HNM:Hid (nmOk (tx j.nm).data.toList=nmOk j.nm):=qq (by rw [tx_list])
 have HSZ:=qq hs
 generalize tx j.nm=s at *
 have hl':s.size≤9223372036854775807:=by omega
 clear hs
 by_cases hn0:s.size=0
 · have HE:=qq (jr_nm (j:=j) (nmOk_none (HSZ.out.symm.trans hn0)))
   have g1:decide ((s.size:Int)<1)=true:=decide_eq_true (by omega)
   clear hn0
   go_wp2_with fail
   exact bodyPost_ret (v:=.int .i64 11) (by simp [results,Tryz.results10,go_sem]) rfl ⟨by rw [HE.out],HB.out⟩
 by_cases hn1:16<s.size
 · have HE:=qq (jr_nm (j:=j) (nmOk_long (by have:=HSZ.out;omega)))
   have g1:decide ((s.size:Int)<1)=false:=decide_eq_false (by omega)
   have g2:decide (16<(s.size:Int))=true:=decide_eq_true (by omega)
   clear hn0 hn1
   go_wp2_with fail
   exact bodyPost_ret (v:=.int .i64 11) (by simp [results,Tryz.results10,go_sem]) rfl ⟨by rw [HE.out],HB.out⟩
 have g1:decide ((s.size:Int)<1)=false:=decide_eq_false (by omega)
 have g2:decide (16<(s.size:Int))=false:=decide_eq_false (by omega)
 have HL:Hid (s.toList.isEmpty=false∧s.size≤16):=qq ⟨by rw [ByteArray.toList_eq];cases h:s.data.toList with | nil=>(have:s.size=s.data.toList.length:=by simp);rw [h] at this;exact absurd this hn0 | cons _ _=>rfl,by omega⟩
 clear hn0 hn1
 go_wp2_with fail
 clear g1 g2
 go_loop [3,4] (fun i u=>∃ k:Nat,k≤s.size∧i=.int .i64 (k:Int)∧(s.data.toList.take k).all nb1=true) (fun i _=>s.size - (intOf i).toNat)
 case atStart=>exact ⟨0,Nat.zero_le _,rfl,rfl⟩
 case round =>
  obtain ⟨k,hk,rfl,hall⟩:=hrel
  have HA:=qq hall;clear hall
  by_cases hlt:k<s.size
  · obtain ⟨c,hc⟩:∃ c:UInt8,s[k]=c:=⟨_,rfl⟩
    have hcl:=c.toNat_lt
    have HC:=qq hc
    have HN:=qq (nb1_int c)
    go_wp2_with fail
    all_goals first
     | (refine ⟨⟨k+1,by omega,by go_num,all_more hlt HC.out ?_ HA.out⟩,by simp [intOf];omega⟩
        rw [HN.out];simp only [Bool.not_eq_true',Bool.and_eq_false_iff,Bool.or_eq_false_iff,decide_eq_false_iff_not];omega)
     | (refine bodyPost_ret (v:=.int .i64 11) (by simp [results,Tryz.results10,go_sem]) rfl ⟨?_,HB.out⟩
        rw [jr_nm (HNM.out.symm.trans (nmOk_bad hlt HC.out (by rw [HN.out];simp only [Bool.not_eq_false',Bool.and_eq_true,Bool.or_eq_true,decide_eq_true_eq];omega)))])
  · obtain rfl:k=s.size:=by omega
    have HNK:Hid (nmOk j.nm=true):=by
     show _=_
     have h:=HA.out
     rw [List.take_of_length_le (by simp)] at h
     rw [← HNM.out]
     unfold nmOk;rw [h,Bool.true_and]
     have h2:=HL.out
     rw [ByteArray.toList_eq] at h2
     rw [h2.1];simp;exact h2.2
    clear HA
    go_upto_region 9 with (fail)
    by_cases n0:j.t<1
    · have HE:=qq (jr_num HNK.out (show numOk j=false by unfold numOk;rw [wn1_lo (most:=16) n0];simp))
      have g0:decide (j.t<1)=true:=decide_eq_true n0
      clear n0
      go_wp2_with fail
      exact bodyPost_ret (v:=.int .i64 14) (by simp [results,Tryz.results10,go_sem]) rfl ⟨by rw [HE.out],HB.out⟩
    by_cases n1:16<j.t
    · have HE:=qq (jr_num HNK.out (show numOk j=false by unfold numOk;rw [wn1_hi (most:=16) n1];simp))
      have g0:decide (j.t<1)=false:=decide_eq_false n0
      have g1:decide (16<j.t)=true:=decide_eq_true n1
      clear n0 n1
      go_wp2_with fail
      exact bodyPost_ret (v:=.int .i64 14) (by simp [results,Tryz.results10,go_sem]) rfl ⟨by rw [HE.out],HB.out⟩
    by_cases n2:j.p<1
    · have HE:=qq (jr_num HNK.out (show numOk j=false by unfold numOk;rw [wn1_lo (most:=16) n2];simp))
      have g0:decide (j.t<1)=false:=decide_eq_false n0
      have g1:decide (16<j.t)=false:=decide_eq_false n1
      have g2:decide (j.p<1)=true:=decide_eq_true n2
      clear n0 n1 n2
      go_wp2_with fail
      exact bodyPost_ret (v:=.int .i64 14) (by simp [results,Tryz.results10,go_sem]) rfl ⟨by rw [HE.out],HB.out⟩
    by_cases n3:16<j.p
    · have HE:=qq (jr_num HNK.out (show numOk j=false by unfold numOk;rw [wn1_hi (most:=16) n3];simp))
      have g0:decide (j.t<1)=false:=decide_eq_false n0
      have g1:decide (16<j.t)=false:=decide_eq_false n1
      have g2:decide (j.p<1)=false:=decide_eq_false n2
      have g3:decide (16<j.p)=true:=decide_eq_true n3
      clear n0 n1 n2 n3
      go_wp2_with fail
      exact bodyPost_ret (v:=.int .i64 14) (by simp [results,Tryz.results10,go_sem]) rfl ⟨by rw [HE.out],HB.out⟩
    by_cases n4:j.k<1
    · have HE:=qq (jr_num HNK.out (show numOk j=false by unfold numOk;rw [wn1_lo (most:=j.n) n4];simp))
      have g0:decide (j.t<1)=false:=decide_eq_false n0
      have g1:decide (16<j.t)=false:=decide_eq_false n1
      have g2:decide (j.p<1)=false:=decide_eq_false n2
      have g3:decide (16<j.p)=false:=decide_eq_false n3
      have g4:decide (j.k<1)=true:=decide_eq_true n4
      clear n0 n1 n2 n3 n4
      go_wp2_with fail
      exact bodyPost_ret (v:=.int .i64 14) (by simp [results,Tryz.results10,go_sem]) rfl ⟨by rw [HE.out],HB.out⟩
    by_cases n5:j.n<j.k
    · have HE:=qq (jr_num HNK.out (show numOk j=false by unfold numOk;rw [wn1_hi (most:=j.n) n5];simp))
      have g0:decide (j.t<1)=false:=decide_eq_false n0
      have g1:decide (16<j.t)=false:=decide_eq_false n1
      have g2:decide (j.p<1)=false:=decide_eq_false n2
      have g3:decide (16<j.p)=false:=decide_eq_false n3
      have g4:decide (j.k<1)=false:=decide_eq_false n4
      have g5:decide (j.n<j.k)=true:=decide_eq_true n5
      clear n0 n1 n2 n3 n4 n5
      go_wp2_with fail
      exact bodyPost_ret (v:=.int .i64 14) (by simp [results,Tryz.results10,go_sem]) rfl ⟨by rw [HE.out],HB.out⟩
    by_cases n6:16<j.n
    · have HE:=qq (jr_num HNK.out (show numOk j=false by unfold numOk;rw [wn1_hi (most:=16) n6];simp))
      have g0:decide (j.t<1)=false:=decide_eq_false n0
      have g1:decide (16<j.t)=false:=decide_eq_false n1
      have g2:decide (j.p<1)=false:=decide_eq_false n2
      have g3:decide (16<j.p)=false:=decide_eq_false n3
      have g4:decide (j.k<1)=false:=decide_eq_false n4
      have g5:decide (j.n<j.k)=false:=decide_eq_false n5
      have g6:decide (16<j.n)=true:=decide_eq_true n6
      clear n0 n1 n2 n3 n4 n5 n6
      go_wp2_with fail
      exact bodyPost_ret (v:=.int .i64 14) (by simp [results,Tryz.results10,go_sem]) rfl ⟨by rw [HE.out],HB.out⟩
    by_cases n7:j.f<1
    · have HE:=qq (jr_num HNK.out (show numOk j=false by unfold numOk;rw [wn1_lo (most:=100000) n7];simp))
      have g0:decide (j.t<1)=false:=decide_eq_false n0
      have g1:decide (16<j.t)=false:=decide_eq_false n1
      have g2:decide (j.p<1)=false:=decide_eq_false n2
      have g3:decide (16<j.p)=false:=decide_eq_false n3
      have g4:decide (j.k<1)=false:=decide_eq_false n4
      have g5:decide (j.n<j.k)=false:=decide_eq_false n5
      have g6:decide (16<j.n)=false:=decide_eq_false n6
      have g7:decide (j.f<1)=true:=decide_eq_true n7
      clear n0 n1 n2 n3 n4 n5 n6 n7
      go_wp2_with fail
      exact bodyPost_ret (v:=.int .i64 14) (by simp [results,Tryz.results10,go_sem]) rfl ⟨by rw [HE.out],HB.out⟩
    by_cases n8:100000<j.f
    · have HE:=qq (jr_num HNK.out (show numOk j=false by unfold numOk;rw [wn1_hi (most:=100000) n8];simp))
      have g0:decide (j.t<1)=false:=decide_eq_false n0
      have g1:decide (16<j.t)=false:=decide_eq_false n1
      have g2:decide (j.p<1)=false:=decide_eq_false n2
      have g3:decide (16<j.p)=false:=decide_eq_false n3
      have g4:decide (j.k<1)=false:=decide_eq_false n4
      have g5:decide (j.n<j.k)=false:=decide_eq_false n5
      have g6:decide (16<j.n)=false:=decide_eq_false n6
      have g7:decide (j.f<1)=false:=decide_eq_false n7
      have g8:decide (100000<j.f)=true:=decide_eq_true n8
      clear n0 n1 n2 n3 n4 n5 n6 n7 n8
      go_wp2_with fail
      exact bodyPost_ret (v:=.int .i64 14) (by simp [results,Tryz.results10,go_sem]) rfl ⟨by rw [HE.out],HB.out⟩
    have g0:decide (j.t<1)=false:=decide_eq_false n0
    have g1:decide (16<j.t)=false:=decide_eq_false n1
    have g2:decide (j.p<1)=false:=decide_eq_false n2
    have g3:decide (16<j.p)=false:=decide_eq_false n3
    have g4:decide (j.k<1)=false:=decide_eq_false n4
    have g5:decide (j.n<j.k)=false:=decide_eq_false n5
    have g6:decide (16<j.n)=false:=decide_eq_false n6
    have g7:decide (j.f<1)=false:=decide_eq_false n7
    have g8:decide (100000<j.f)=false:=decide_eq_false n8
    have HNU:Hid (numOk j=true):=qq (by unfold numOk;rw [wn1_of (by omega) (by omega),wn1_of (by omega) (by omega),wn1_of (by omega) (by omega),wn1_of (by omega) (by omega),wn1_of (by omega) (by omega)];rfl)
    clear n0 n1 n2 n3 n4 n5 n6 n7 n8
    go_upto_region 11 with (fail)
    clear g0 g1 g2 g3 g4 g5 g6 g7 g8
    go_cut [112] from 85 to 111 (fun q wx=>q=.bool (!exOk j)∧Below w.heap.size w wx∧Blk wx w.heap.size [.string (s),.int .i64 j.t,.int .i64 j.p,.int .i64 j.k,.int .i64 j.n,.int .i64 j.f,.slice A1 j.m.length c1,.slice A2 j.b.length c2,.slice A3 j.r.length c3,.string (tx j.fd),.bool j.cb])
    case first =>
     go_wp2_with fail
     refine (xright_any j.m A1 c1 _ (HJL.out.m.next HB.out) HJL.out.lm).mono ?_
     rintro e mm ⟨rfl,hb⟩
     clear e0 e1 e2 e3 e4 e5 e6 e7 e8 e9 e10
     replace HJ:=qq (HJ.out.next hb);replace HB:=qq (Below.next HB.out hb);clear hb
     obtain ⟨e0,e1,e2,e3,e4,e5,e6,e7,e8,e9,e10⟩:=elev HJ.out
     obtain ⟨qm,hqm⟩:∃ q,Rt j.m=q:=⟨_,rfl⟩
     rw [hqm]
     cases qm
     · have HX:Hid (exOk j=false):=qq (by unfold exOk;rw [hqm];rfl)
       clear hqm
       go_wp2_with fail
       go_meet
       exact ⟨by rw [HX.out];rfl,HB.out,HJ.out⟩
     · by_cases hb0:j.b.length=0
       · have gb:decide (0<j.b.length)=false:=decide_eq_false (by omega)
         have HB1:(j.b.isEmpty || Rt j.b)=true:=by rw [emp hb0];rfl
         clear hb0
         by_cases hr0:j.r.length=0
         · have gr:decide (0<j.r.length)=false:=decide_eq_false (by omega)
           have HR1:(j.r.isEmpty || Rt j.r)=true:=by rw [emp hr0];rfl
           have HX:Hid (exOk j=true):=qq (by unfold exOk;rw [hqm,HB1,HR1];rfl)
           clear hr0 HR1 HB1 hqm
           go_wp2_with fail
           go_meet
           exact ⟨by rw [HX.out];rfl,HB.out,HJ.out⟩
         · have gr:decide (0<j.r.length)=true:=decide_eq_true (by omega)
           have HR0:=qq hr0
           have HM1:=qq hqm;have HB2:=qq HB1
           clear hr0 hqm HB1
           go_wp2_with fail
           refine (xright_any j.r A3 c3 _ (HJL.out.r.next HB.out) HJL.out.lr).mono ?_
           rintro e mr ⟨rfl,hb⟩
           clear e0 e1 e2 e3 e4 e5 e6 e7 e8 e9 e10
           replace HJ:=qq (HJ.out.next hb);replace HB:=qq (Below.next HB.out hb);clear hb
           obtain ⟨e0,e1,e2,e3,e4,e5,e6,e7,e8,e9,e10⟩:=elev HJ.out
           obtain ⟨qr,hqr⟩:∃ q,Rt j.r=q:=⟨_,rfl⟩
           rw [hqr]
           cases qr
           · have HX:Hid (exOk j=false):=qq (by unfold exOk;rw [HM1.out,HB2.out,hqr,ne_emp HR0.out];rfl)
             clear hqr
             go_wp2_with fail
             go_meet
             exact ⟨by rw [HX.out];rfl,HB.out,HJ.out⟩
           · have HX:Hid (exOk j=true):=qq (by unfold exOk;rw [HM1.out,HB2.out,hqr,ne_emp HR0.out];rfl)
             clear hqr
             go_wp2_with fail
             go_meet
             exact ⟨by rw [HX.out];rfl,HB.out,HJ.out⟩
       · have gb:decide (0<j.b.length)=true:=decide_eq_true (by omega)
         have HB0:=qq hb0
         have HM0:=qq hqm
         clear hb0 hqm
         go_wp2_with fail
         refine (xright_any j.b A2 c2 _ (HJL.out.b.next HB.out) HJL.out.lb).mono ?_
         rintro e mb ⟨rfl,hb⟩
         clear e0 e1 e2 e3 e4 e5 e6 e7 e8 e9 e10
         replace HJ:=qq (HJ.out.next hb);replace HB:=qq (Below.next HB.out hb);clear hb
         obtain ⟨e0,e1,e2,e3,e4,e5,e6,e7,e8,e9,e10⟩:=elev HJ.out
         obtain ⟨qb,hqb⟩:∃ q,Rt j.b=q:=⟨_,rfl⟩
         rw [hqb]
         have hqm:=HM0.out
         cases qb
         · have HX:Hid (exOk j=false):=qq (by unfold exOk;rw [hqm,hqb,ne_emp HB0.out];rfl)
           clear hqb hqm
           go_wp2_with fail
           go_meet
           exact ⟨by rw [HX.out];rfl,HB.out,HJ.out⟩
         · have HB1:(j.b.isEmpty || Rt j.b)=true:=by rw [hqb];simp
           clear hqb
           by_cases hr0:j.r.length=0
           · have gr:decide (0<j.r.length)=false:=decide_eq_false (by omega)
             have HR1:(j.r.isEmpty || Rt j.r)=true:=by rw [emp hr0];rfl
             have HX:Hid (exOk j=true):=qq (by unfold exOk;rw [hqm,HB1,HR1];rfl)
             clear hr0 HR1 HB1 hqm
             go_wp2_with fail
             go_meet
             exact ⟨by rw [HX.out];rfl,HB.out,HJ.out⟩
           · have gr:decide (0<j.r.length)=true:=decide_eq_true (by omega)
             have HR0:=qq hr0
             have HM1:=qq hqm;have HB2:=qq HB1
             clear hr0 hqm HB1
             go_wp2_with fail
             refine (xright_any j.r A3 c3 _ (HJL.out.r.next HB.out) HJL.out.lr).mono ?_
             rintro e mr ⟨rfl,hb⟩
             clear e0 e1 e2 e3 e4 e5 e6 e7 e8 e9 e10
             replace HJ:=qq (HJ.out.next hb);replace HB:=qq (Below.next HB.out hb);clear hb
             obtain ⟨e0,e1,e2,e3,e4,e5,e6,e7,e8,e9,e10⟩:=elev HJ.out
             obtain ⟨qr,hqr⟩:∃ q,Rt j.r=q:=⟨_,rfl⟩
             rw [hqr]
             cases qr
             · have HX:Hid (exOk j=false):=qq (by unfold exOk;rw [HM1.out,HB2.out,hqr,ne_emp HR0.out];rfl)
               clear hqr
               go_wp2_with fail
               go_meet
               exact ⟨by rw [HX.out];rfl,HB.out,HJ.out⟩
             · have HX:Hid (exOk j=true):=qq (by unfold exOk;rw [HM1.out,HB2.out,hqr,ne_emp HR0.out];rfl)
               clear hqr
               go_wp2_with fail
               go_meet
               exact ⟨by rw [HX.out];rfl,HB.out,HJ.out⟩
    case rest =>
     obtain ⟨rfl,hb,hj⟩:=hcut
     clear e0 e1 e2 e3 e4 e5 e6 e7 e8 e9 e10 HJ HB
     have HJ:=qq hj;have HB:=qq hb
     clear hj hb
     obtain ⟨qx,hqx⟩:∃ q,exOk j=q:=⟨_,rfl⟩
     rw [hqx]
     cases qx
     · have HE:=qq (jr_ex HNK.out HNU.out (show (exOk j && fdOk j)=false by rw [hqx];rfl))
       clear hqx
       go_wp2_with fail
       exact bodyPost_ret (v:=.int .i64 1) (by simp [results,Tryz.results10,go_sem]) rfl ⟨by rw [HE.out],HB.out⟩
     have HEX:=qq hqx
     clear hqx
     obtain ⟨e0,e1,e2,e3,e4,e5,e6,e7,e8,e9,e10⟩:=elev HJ.out
     go_upto_region 13 with (fail)
     go_cut [143] from 113 to 142 (fun q wx=>q=.bool (!fdOk j)∧Below w.heap.size w wx∧Blk wx w.heap.size [.string (s),.int .i64 j.t,.int .i64 j.p,.int .i64 j.k,.int .i64 j.n,.int .i64 j.f,.slice A1 j.m.length c1,.slice A2 j.b.length c2,.slice A3 j.r.length c3,.string (tx j.fd),.bool j.cb])
     case first =>
      by_cases hf0:j.fd.isEmpty=true
      · have g1:(tx j.fd).toList.isEmpty=true:=by rw [empty_tx];exact hf0
        have hf1:j.fd=[]:=List.isEmpty_iff.1 hf0
        by_cases hr0:j.r.length=0
        · have HX:Hid (fdOk j=false):=qq (by unfold fdOk;rw [if_pos (emp hr0),hf1];rfl)
          have gr:decide (0<j.r.length)=false:=decide_eq_false (by omega)
          have ge:(j.r.length == 0)=true:=beq_iff_eq.2 hr0
          have ge2:((j.r.length:Int) == 0)=true:=beq_iff_eq.2 (by omega)
          have ge3:decide (j.r.length=0)=true:=decide_eq_true hr0
          clear hr0
          clear hf0 hf1
          go_wp2_with fail
          go_meet
          exact ⟨by rw [HX.out];rfl,HB.out,HJ.out⟩
        · have HX:Hid (fdOk j=true):=qq (by unfold fdOk;rw [if_neg (by rw [ne_emp hr0];simp)];exact hf0)
          have gr:decide (0<j.r.length)=true:=decide_eq_true (by omega)
          have ge:(j.r.length == 0)=false:=beq_eq_false_iff_ne.2 hr0
          have ge2:((j.r.length:Int) == 0)=false:=beq_eq_false_iff_ne.2 (by omega)
          have ge3:decide (j.r.length=0)=false:=decide_eq_false hr0
          clear hr0
          clear hf0 hf1
          go_wp2_with fail
          go_meet
          exact ⟨by rw [HX.out];rfl,HB.out,HJ.out⟩
      · have g1:(tx j.fd).toList.isEmpty=false:=by rw [empty_tx];exact Bool.eq_false_iff.2 hf0
        have hf1:=qq hf0
        clear hf0
        go_wp2_with fail
        refine (rfolds_any (tx j.fd) _).mono ?_
        rintro e m4 ⟨rfl,hb⟩
        clear e0 e1 e2 e3 e4 e5 e6 e7 e8 e9 e10
        replace HJ:=qq (HJ.out.next hb);replace HB:=qq (Below.next HB.out hb);clear hb
        obtain ⟨e0,e1,e2,e3,e4,e5,e6,e7,e8,e9,e10⟩:=elev HJ.out
        rw [tx_list]
        obtain ⟨qf,hqf⟩:∃ q,isF j.fd=q:=⟨_,rfl⟩
        rw [hqf]
        by_cases hr0:j.r.length=0
        · have HX:Hid (fdOk j=qf):=qq (by unfold fdOk;rw [if_pos (emp hr0)];exact hqf)
          have gr:decide (0<j.r.length)=false:=decide_eq_false (by omega)
          have ge:(j.r.length == 0)=true:=beq_iff_eq.2 hr0
          have ge2:((j.r.length:Int) == 0)=true:=beq_iff_eq.2 (by omega)
          have ge3:decide (j.r.length=0)=true:=decide_eq_true hr0
          clear hr0
          clear hqf
          cases qf
          · go_wp2_with fail
            go_meet
            exact ⟨by rw [HX.out];rfl,HB.out,HJ.out⟩
          · go_wp2_with fail
            go_meet
            exact ⟨by rw [HX.out];rfl,HB.out,HJ.out⟩
        · have HX:Hid (fdOk j=false):=qq (by unfold fdOk;rw [if_neg (by rw [ne_emp hr0];simp)];exact Bool.eq_false_iff.2 hf1.out)
          have gr:decide (0<j.r.length)=true:=decide_eq_true (by omega)
          have ge:(j.r.length == 0)=false:=beq_eq_false_iff_ne.2 hr0
          have ge2:((j.r.length:Int) == 0)=false:=beq_eq_false_iff_ne.2 (by omega)
          have ge3:decide (j.r.length=0)=false:=decide_eq_false hr0
          clear hr0
          clear hqf
          cases qf
          · go_wp2_with fail
            go_meet
            exact ⟨by rw [HX.out];rfl,HB.out,HJ.out⟩
          · go_wp2_with fail
            go_meet
            exact ⟨by rw [HX.out];rfl,HB.out,HJ.out⟩
     case rest =>
      obtain ⟨rfl,hb,hj⟩:=hcut
      clear e0 e1 e2 e3 e4 e5 e6 e7 e8 e9 e10 HJ HB
      have HJ:=qq hj;have HB:=qq hb
      clear hj hb
      obtain ⟨qx,hqx⟩:∃ q,fdOk j=q:=⟨_,rfl⟩
      rw [hqx]
      cases qx
      · have HE:=qq (jr_ex HNK.out HNU.out (show (exOk j && fdOk j)=false by rw [hqx,HEX.out];rfl))
        clear hqx
        go_wp2_with fail
        exact bodyPost_ret (v:=.int .i64 1) (by simp [results,Tryz.results10,go_sem]) rfl ⟨by rw [HE.out],HB.out⟩
      have HEF:Hid ((exOk j && fdOk j)=true):=qq (by rw [hqx,HEX.out];rfl)
      clear hqx
      have HMR:Hid ((j.m.isEmpty || Rt j.m)=true∧(j.b.isEmpty || Rt j.b)=true):=qq (by have h:=HEX.out;unfold exOk at h;simp only [Bool.and_eq_true] at h;exact ⟨by rw [h.1.1];simp,h.1.2⟩)
      obtain ⟨e0,e1,e2,e3,e4,e5,e6,e7,e8,e9,e10⟩:=elev HJ.out
      go_upto_region 15 with (fail)
      go_cut [176] from 144 to 175 (fun q wx=>q=.bool (!wdOk j)∧Below w.heap.size w wx∧Blk wx w.heap.size [.string (s),.int .i64 j.t,.int .i64 j.p,.int .i64 j.k,.int .i64 j.n,.int .i64 j.f,.slice A1 j.m.length c1,.slice A2 j.b.length c2,.slice A3 j.r.length c3,.string (tx j.fd),.bool j.cb])
      case first =>
       go_wp2_with fail
       refine (rhas_any j.m A1 c1 1 2 _ (HJL.out.m.next HB.out) HJL.out.lm).mono ?_
       rintro e k0 ⟨rfl,hb⟩
       clear e0 e1 e2 e3 e4 e5 e6 e7 e8 e9 e10
       replace HJ:=qq (HJ.out.next hb);replace HB:=qq (Below.next HB.out hb);clear hb
       obtain ⟨e0,e1,e2,e3,e4,e5,e6,e7,e8,e9,e10⟩:=elev HJ.out
       obtain ⟨qh,hqh⟩:∃ q,j.m.any (dh 1 2)=q:=⟨_,rfl⟩
       rw [hqh]
       have HZ0:Hid (hs j.m 2=qh):=qq ((hs_dh HMR.out.1 2).symm.trans hqh)
       clear hqh
       rcases Bool.eq_false_or_eq_true qh with hq | hq
       · subst hq
         have HX:Hid (wdOk j=false):=qq (by simp [wdOk,HZ0.out])
         go_wp2_with fail
         go_meet
         exact ⟨by rw [HX.out];rfl,HB.out,HJ.out⟩
       subst hq
       go_wp2_with fail
       refine (rhas_any j.b A2 c2 1 1 _ (HJL.out.b.next HB.out) HJL.out.lb).mono ?_
       rintro e k1 ⟨rfl,hb⟩
       clear e0 e1 e2 e3 e4 e5 e6 e7 e8 e9 e10
       replace HJ:=qq (HJ.out.next hb);replace HB:=qq (Below.next HB.out hb);clear hb
       obtain ⟨e0,e1,e2,e3,e4,e5,e6,e7,e8,e9,e10⟩:=elev HJ.out
       obtain ⟨qh,hqh⟩:∃ q,j.b.any (dh 1 1)=q:=⟨_,rfl⟩
       rw [hqh]
       have HZ1:Hid (hs j.b 1=qh):=qq ((hs_dh HMR.out.2 1).symm.trans hqh)
       clear hqh
       rcases Bool.eq_false_or_eq_true qh with hq | hq
       · subst hq
         have HX:Hid (wdOk j=false):=qq (by simp [wdOk,HZ0.out,HZ1.out])
         go_wp2_with fail
         go_meet
         exact ⟨by rw [HX.out];rfl,HB.out,HJ.out⟩
       subst hq
       go_wp2_with fail
       refine (rhas_any j.b A2 c2 1 2 _ (HJL.out.b.next HB.out) HJL.out.lb).mono ?_
       rintro e k2 ⟨rfl,hb⟩
       clear e0 e1 e2 e3 e4 e5 e6 e7 e8 e9 e10
       replace HJ:=qq (HJ.out.next hb);replace HB:=qq (Below.next HB.out hb);clear hb
       obtain ⟨e0,e1,e2,e3,e4,e5,e6,e7,e8,e9,e10⟩:=elev HJ.out
       obtain ⟨qh,hqh⟩:∃ q,j.b.any (dh 1 2)=q:=⟨_,rfl⟩
       rw [hqh]
       have HZ2:Hid (hs j.b 2=qh):=qq ((hs_dh HMR.out.2 2).symm.trans hqh)
       clear hqh
       rcases Bool.eq_false_or_eq_true qh with hq | hq
       · subst hq
         have HX:Hid (wdOk j=false):=qq (by simp [wdOk,HZ0.out,HZ1.out,HZ2.out])
         go_wp2_with fail
         go_meet
         exact ⟨by rw [HX.out];rfl,HB.out,HJ.out⟩
       subst hq
       go_wp2_with fail
       refine (rhas_any j.b A2 c2 1 3 _ (HJL.out.b.next HB.out) HJL.out.lb).mono ?_
       rintro e k3 ⟨rfl,hb⟩
       clear e0 e1 e2 e3 e4 e5 e6 e7 e8 e9 e10
       replace HJ:=qq (HJ.out.next hb);replace HB:=qq (Below.next HB.out hb);clear hb
       obtain ⟨e0,e1,e2,e3,e4,e5,e6,e7,e8,e9,e10⟩:=elev HJ.out
       obtain ⟨qh,hqh⟩:∃ q,j.b.any (dh 1 3)=q:=⟨_,rfl⟩
       rw [hqh]
       have HZ3:Hid (hs j.b 3=qh):=qq ((hs_dh HMR.out.2 3).symm.trans hqh)
       clear hqh
       rcases Bool.eq_false_or_eq_true qh with hq | hq
       · subst hq
         have HX:Hid (wdOk j=false):=qq (by simp [wdOk,HZ0.out,HZ1.out,HZ2.out,HZ3.out])
         go_wp2_with fail
         go_meet
         exact ⟨by rw [HX.out];rfl,HB.out,HJ.out⟩
       subst hq
       go_wp2_with fail
       refine (rhas_any j.b A2 c2 1 4 _ (HJL.out.b.next HB.out) HJL.out.lb).mono ?_
       rintro e k4 ⟨rfl,hb⟩
       clear e0 e1 e2 e3 e4 e5 e6 e7 e8 e9 e10
       replace HJ:=qq (HJ.out.next hb);replace HB:=qq (Below.next HB.out hb);clear hb
       obtain ⟨e0,e1,e2,e3,e4,e5,e6,e7,e8,e9,e10⟩:=elev HJ.out
       obtain ⟨qh,hqh⟩:∃ q,j.b.any (dh 1 4)=q:=⟨_,rfl⟩
       rw [hqh]
       have HZ4:Hid (hs j.b 4=qh):=qq ((hs_dh HMR.out.2 4).symm.trans hqh)
       clear hqh
       rcases Bool.eq_false_or_eq_true qh with hq | hq
       · subst hq
         have HX:Hid (wdOk j=false):=qq (by simp [wdOk,HZ0.out,HZ1.out,HZ2.out,HZ3.out,HZ4.out])
         go_wp2_with fail
         go_meet
         exact ⟨by rw [HX.out];rfl,HB.out,HJ.out⟩
       subst hq
       go_wp2_with fail
       refine (rhas_any j.b A2 c2 26 (-1) _ (HJL.out.b.next HB.out) HJL.out.lb).mono ?_
       rintro e k5 ⟨rfl,hb⟩
       clear e0 e1 e2 e3 e4 e5 e6 e7 e8 e9 e10
       replace HJ:=qq (HJ.out.next hb);replace HB:=qq (Below.next HB.out hb);clear hb
       obtain ⟨e0,e1,e2,e3,e4,e5,e6,e7,e8,e9,e10⟩:=elev HJ.out
       obtain ⟨qh,hqh⟩:∃ q,j.b.any (dh 26 (-1))=q:=⟨_,rfl⟩
       rw [hqh]
       have HZ5:Hid (em j.b=qh):=qq ((em_dh j.b).symm.trans hqh)
       clear hqh
       rcases Bool.eq_false_or_eq_true qh with hq | hq
       · subst hq
         have HX:Hid (wdOk j=false):=qq (by simp [wdOk,HZ0.out,HZ1.out,HZ2.out,HZ3.out,HZ4.out,HZ5.out])
         go_wp2_with fail
         go_meet
         exact ⟨by rw [HX.out];rfl,HB.out,HJ.out⟩
       subst hq
       go_wp2_with fail
       refine (rhas_any j.r A3 c3 26 (-1) _ (HJL.out.r.next HB.out) HJL.out.lr).mono ?_
       rintro e k6 ⟨rfl,hb⟩
       clear e0 e1 e2 e3 e4 e5 e6 e7 e8 e9 e10
       replace HJ:=qq (HJ.out.next hb);replace HB:=qq (Below.next HB.out hb);clear hb
       obtain ⟨e0,e1,e2,e3,e4,e5,e6,e7,e8,e9,e10⟩:=elev HJ.out
       obtain ⟨qh,hqh⟩:∃ q,j.r.any (dh 26 (-1))=q:=⟨_,rfl⟩
       rw [hqh]
       have HZ6:Hid (em j.r=qh):=qq ((em_dh j.r).symm.trans hqh)
       clear hqh
       rcases Bool.eq_false_or_eq_true qh with hq | hq
       · subst hq
         have HX:Hid (wdOk j=false):=qq (by simp [wdOk,HZ0.out,HZ1.out,HZ2.out,HZ3.out,HZ4.out,HZ5.out,HZ6.out])
         go_wp2_with fail
         go_meet
         exact ⟨by rw [HX.out];rfl,HB.out,HJ.out⟩
       subst hq
       have HX:Hid (wdOk j=true):=qq (by simp [wdOk,HZ0.out,HZ1.out,HZ2.out,HZ3.out,HZ4.out,HZ5.out,HZ6.out])
       go_wp2_with fail
       go_meet
       exact ⟨by rw [HX.out];rfl,HB.out,HJ.out⟩
      case rest =>
       obtain ⟨rfl,hb,hj⟩:=hcut
       clear e0 e1 e2 e3 e4 e5 e6 e7 e8 e9 e10 HJ HB
       have HJ:=qq hj;have HB:=qq hb
       clear hj hb
       obtain ⟨qx,hqx⟩:∃ q,wdOk j=q:=⟨_,rfl⟩
       rw [hqx]
       cases qx
       · have HE:=qq (jr_wd HNK.out HNU.out HEF.out hqx)
         clear hqx
         go_wp2_with fail
         exact bodyPost_ret (v:=.int .i64 10) (by simp [results,Tryz.results10,go_sem]) rfl ⟨by rw [HE.out],HB.out⟩
       have HW:=qq hqx
       clear hqx
       obtain ⟨e0,e1,e2,e3,e4,e5,e6,e7,e8,e9,e10⟩:=elev HJ.out
       obtain ⟨qc,hqc⟩:∃ q,j.cb=q:=⟨_,rfl⟩
       obtain ⟨qf,hqf⟩:∃ q,j.fd.isEmpty=q:=⟨_,rfl⟩
       have g1:(tx j.fd).toList.isEmpty=qf:=by rw [empty_tx];exact hqf
       have HCF:Hid ((j.cb && j.fd.isEmpty)=(qc && qf)):=qq (by rw [hqc,hqf])
       clear hqf
       cases qc
       · have HE:=qq (jr_of HNK.out HNU.out HEF.out HW.out (HCF.out.trans rfl))
         go_wp2_with fail
         exact bodyPost_ret (v:=.int .i64 0) (by simp [results,Tryz.results10,go_sem]) rfl ⟨by rw [HE.out],HB.out⟩
       cases qf
       · have HE:=qq (jr_of HNK.out HNU.out HEF.out HW.out (HCF.out.trans rfl))
         go_wp2_with fail
         exact bodyPost_ret (v:=.int .i64 0) (by simp [results,Tryz.results10,go_sem]) rfl ⟨by rw [HE.out],HB.out⟩
       · have HE:=qq (jr_st HNK.out HNU.out HEF.out HW.out (HCF.out.trans rfl))
         go_wp2_with fail
         exact bodyPost_ret (v:=.int .i64 19) (by simp [results,Tryz.results10,go_sem]) rfl ⟨by rw [HE.out],HB.out⟩
end Go.Proofs.YtgakcpcpfkoaiaaGreatDoor.Jo
