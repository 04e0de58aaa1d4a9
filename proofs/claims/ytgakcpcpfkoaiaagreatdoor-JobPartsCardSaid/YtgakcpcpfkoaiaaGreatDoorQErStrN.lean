/-
  A text of this claim: ErStrN.
-/
import Derived.Test.YtgakcpcpfkoaiaaGreatDoorQ1
import Derived.Test.YtgakcpcpfkoaiaaGreatDoorQ7
import Derived.Test.YtgakcpcpfkoaiaaGreatDoorQErQuote
import Derived.Test.YtgakcpcpfkoaiaaGreatDoorQEvDeed5
import Derived.Deep.Cut
import Derived.Test.YtgakcpcpfkoaiaaGreatDoorQ2
set_option maxHeartbeats 4000000
set_option maxRecDepth 100000
namespace Go.Proofs.YtgakcpcpfkoaiaaGreatDoor.Ev
open Go.ChangeShapes Go.WideShapes Go.ChangeAt Go.RowKit Ov Va Ga Ex
theorem mstr_num {w0:World} {A:Option Addr} {c E b n:Nat} {l:List No} {S:St} {ov:Value} {w:World} {L cap:Nat} (p:Va) (hp:rt p=true) (hv:Vs w L [p]) (hd:Mac w0 A c E b l S n 0 ov w) (hl:0<l.length):Calls Tryz.prog 157 #[.pointer (some ⟨b,0,none⟩),.string ⟨#[110,117,109]⟩,.slice (some ⟨L,0,none⟩) 1 cap] w (Rn (ap 19 [p] S n) w0 A c E b l ov w):=by
 have HF:=qq (fun (x:Int) (hx:x ≠ 0) w1 (h:Mac w0 A c E b l S n 0 ov w1)=>mfail_at x hx h)
 have HAR:=qq (fun w1 (h1:Vs w1 L [p]) K (hq:Blk w1 K (kcl [1])) (h:Mac w0 A c E b l S n 0 ov w1)=>(mare_any (cl:=cap) (ck:=1) (by decide) (Nat.le_refl 1) (by show 1≤3;decide) h1 hq h:Calls Tryz.prog 152 #[.pointer (some ⟨b,0,none⟩),.slice (some ⟨L,0,none⟩) 1 cap,.slice (some ⟨K,0,none⟩) 1 1] w1 (Ar (fits [1] [p]) w0 A c E b l S n ov w1)))
 have hsp:=(rt_all hp).2.1
 have HRT:=qq hp;clear hp 
 obtain ⟨w1,hw1,hd1,hm1,hbel,hsz,hbX,hbKa⟩:=mbox2 hd hl 28 zz 3 [.int .i64 1]
 have HD1:=qq hd1;have HM1:=qq hm1;have HW1:=qq hw1;have HX1:=qq hbX;have HKa1:=qq hbKa
 have HL1:=qq (hv.next hbel);clear hv
 clear hd hd1 hm1 hbel hsz hw1 hbX hbKa
 go_enter Tryz.func157,Tryz.ntmps157
 go_wp2_with fail
 rw [HW1.out]
 refine (HAR.out _ HL1.out _ HKa1.out.blk HD1.out).mono ?_
 rintro e w2 ⟨rfl,hd2,hm2,hbl2⟩
 rcases Bool.eq_false_or_eq_true (fits [1] [p]) with hf | hf
 · have HAP:Hid (ap 19 [p] S n=af 19 [p] S n):=ap_af (o:=19) (l:=[p]) hf S n
   have HD2:=qq (show Mac w0 A c E b l S n 0 ov w2 by rw [hf] at hd2;exact hd2);have HM2:=qq (HM1.out.trans hm2);have HX2:=qq (HX1.out.mv hm2);have HL2:=qq (HL1.out.next (hbl2 hf))
   have hk0:=fits_1 hf
   rw [hf]
   clear hd2 hm2 hbl2 hf HD1 HM1 HX1 HKa1 HL1 
   have hts:=tx_size p.s
   have hl0:Hid (0<l.length):=hl
   obtain ⟨u,hu⟩:∃ u,tx p.s=u:=⟨_,rfl⟩
   have l2:w2.cell? ⟨L,2,none⟩=some (.string (tx p.s)):=HL2.out 0 2 _ (by show 0<1;decide) rfl
   have HPA:=qq (rparse_any (tx p.s) (by omega))
   rw [tx_list,hu] at HPA
   rw [hu] at l2
   clear hu hts
   have HNF:Hid (af 19 [p] S n=lift (numOf p.s) S n):=rfl
   go_wp2_with fail
   refine (HPA.out _).mono ?_
   rintro e w3 ⟨v,m,x,rfl,hb,hor⟩
   have HOR:=qq hor;clear hor
   have HD3:=qq (HD2.out.old hb)
   have HM3:=qq (HM2.out.old hb)
   have HX3:=qq (HX2.out.old hb)
   clear hb HD2 HM2 HX2 l2 HL2 HPA
   have hbV:=Box.makeM HD3.out hl0.out 28 v
   have hb:=box1 w3 (.cells v 28)
   obtain ⟨w4,hw4⟩:∃ w4,w3.alloc (.cells v 28)=w4:=⟨_,rfl⟩
   rw [show w3.alloc (.cells v 28)=w4 from hw4] at hbV
   rw [hw4] at hb
   have HW4:=qq hw4;have HV4:=qq hbV
   clear hw4 hbV
   have HD4:=qq (HD3.out.old hb)
   have HM4:=qq (HM3.out.old hb)
   have HX4:=qq (HX3.out.old hb)
   clear hb HD3 HM3 HX3  
   rcases HOR.out with ⟨hno,hc⟩ | ⟨hyes,rfl,rfl,hk⟩
   · have HB:Hid (af 19 [p] S n=.er 6):=by show _=_;rw [HNF.out,hno];rfl
     clear hno HOR HNF
     have hcs:((x != 0)=true)∨(((x != 0)=false)∧decide (m<(u.size:Int))=true)∨(((x != 0)=false)∧decide (m<(u.size:Int))=false∧(v.k != 0)=true):=by
      by_cases h1:x=0
      · by_cases h2:m<(u.size:Int)
        · exact .inr (.inl ⟨by simpa using h1,decide_eq_true h2⟩)
        · exact .inr (.inr ⟨by simpa using h1,decide_eq_false h2,by simpa using (hc.resolve_left (fun e=>e h1)).resolve_left h2⟩)
      · exact .inl (by simpa using h1)
     clear hc
     rcases hcs with g1 | ⟨g1,g2⟩ | ⟨g1,g2,g3⟩
     · skip
       have qV0:=HV4.out.blk.c 0 _ rfl
       go_wp2_with fail
       rw [HW4.out]
       refine (HF.out 6 (by decide) _ HD4.out).mono ?_
       rintro e w5 ⟨rfl,hd3,hm3⟩
       have HD5:=qq hd3;have HM5:=qq (HM4.out.trans hm3);have HX5:=qq (HX4.out.mv hm3)
       clear hd3 hm3 HD4 HM4 HX4 HV4 qV0 
       obtain ⟨cX0,cX1,cX2,cX3,cX4,zX0,zX1,zX2,zX3,zX4,hltX⟩:=HX5.out.five
       go_wp2_with fail
       refine mend (P:=bodyPost _ _ _ _ _) HD5.out HM5.out HX5.out (by omega) _ _ _ _ _ ?_
       clear HD5 HM5 HX5 cX0 cX1 cX2 cX3 cX4 zX0 zX1 zX2 zX3 zX4
       intro w9 hd9 hm9 c0 c1 c2 c3 c4
       refine bodyPost_ret (v:=.agg zz) (by simp [results,Tryz.results157,go_sem,c0,c1,c2,c3,c4]) rfl ⟨vz,6,S,n,ov,rfl,by rw [HAP.out,HB.out];exact Ans.er rfl rfl (by decide),fun _=>rfl,hd9,hm9⟩
     · skip
       have qV0:=HV4.out.blk.c 0 _ rfl
       go_wp2_with fail
       rw [HW4.out]
       refine (HF.out 6 (by decide) _ HD4.out).mono ?_
       rintro e w5 ⟨rfl,hd3,hm3⟩
       have HD5:=qq hd3;have HM5:=qq (HM4.out.trans hm3);have HX5:=qq (HX4.out.mv hm3)
       clear hd3 hm3 HD4 HM4 HX4 HV4 qV0 
       obtain ⟨cX0,cX1,cX2,cX3,cX4,zX0,zX1,zX2,zX3,zX4,hltX⟩:=HX5.out.five
       go_wp2_with fail
       refine mend (P:=bodyPost _ _ _ _ _) HD5.out HM5.out HX5.out (by omega) _ _ _ _ _ ?_
       clear HD5 HM5 HX5 cX0 cX1 cX2 cX3 cX4 zX0 zX1 zX2 zX3 zX4
       intro w9 hd9 hm9 c0 c1 c2 c3 c4
       refine bodyPost_ret (v:=.agg zz) (by simp [results,Tryz.results157,go_sem,c0,c1,c2,c3,c4]) rfl ⟨vz,6,S,n,ov,rfl,by rw [HAP.out,HB.out];exact Ans.er rfl rfl (by decide),fun _=>rfl,hd9,hm9⟩
     · skip
       have qV0:=HV4.out.blk.c 0 _ rfl
       go_wp2_with fail
       rw [HW4.out]
       refine (HF.out 6 (by decide) _ HD4.out).mono ?_
       rintro e w5 ⟨rfl,hd3,hm3⟩
       have HD5:=qq hd3;have HM5:=qq (HM4.out.trans hm3);have HX5:=qq (HX4.out.mv hm3)
       clear hd3 hm3 HD4 HM4 HX4 HV4 qV0 
       obtain ⟨cX0,cX1,cX2,cX3,cX4,zX0,zX1,zX2,zX3,zX4,hltX⟩:=HX5.out.five
       go_wp2_with fail
       refine mend (P:=bodyPost _ _ _ _ _) HD5.out HM5.out HX5.out (by omega) _ _ _ _ _ ?_
       clear HD5 HM5 HX5 cX0 cX1 cX2 cX3 cX4 zX0 zX1 zX2 zX3 zX4
       intro w9 hd9 hm9 c0 c1 c2 c3 c4
       refine bodyPost_ret (v:=.agg zz) (by simp [results,Tryz.results157,go_sem,c0,c1,c2,c3,c4]) rfl ⟨vz,6,S,n,ov,rfl,by rw [HAP.out,HB.out];exact Ans.er rfl rfl (by decide),fun _=>rfl,hd9,hm9⟩
   · have HB:Hid (af 19 [p] S n=.ok v S n):=by show _=_;rw [HNF.out,hyes];rfl
     have g3:(v.k != 0)=false:=by simpa using hk
     clear hyes hk HOR HNF
     obtain ⟨qV0,qV1,qV2,qV3,qV4⟩:=ck5 HV4.out.blk
     go_upto_region 37 with fail
     rw [HW4.out]
     obtain ⟨cX0,cX1,cX2,cX3,cX4,zX0,zX1,zX2,zX3,zX4,hltX⟩:=HX4.out.five
     go_wp2_with fail
     refine mend (P:=bodyPost _ _ _ _ _) HD4.out HM4.out HX4.out (by omega) _ _ _ _ _ ?_
     clear HD4 HM4 HX4 HV4 qV0 qV1 qV2 qV3 qV4 cX0 cX1 cX2 cX3 cX4 zX0 zX1 zX2 zX3 zX4
     intro w9 hd9 hm9 c0 c1 c2 c3 c4
     refine bodyPost_ret (v:=.agg v) (by simp [results,Tryz.results157,go_sem,c0,c1,c2,c3,c4]) rfl ⟨v,0,S,n,ov,rfl,Ans.ok (by rw [HAP.out,HB.out]) rfl,fun h=>absurd rfl h,hd9,hm9⟩
 · have HAP:=qq (ap_no (o:=19) (l:=[p]) hf S n)
   have HD2:=qq (show Mac w0 A c E b l S n 13 ov w2 by rw [hf] at hd2;exact hd2);have HM2:=qq (HM1.out.trans hm2);have HX2:=qq (HX1.out.mv hm2)
   rw [hf]
   clear hd2 hm2 hbl2 hf HD1 HM1 HX1 HKa1 HL1 
   obtain ⟨cX0,cX1,cX2,cX3,cX4,zX0,zX1,zX2,zX3,zX4,hltX⟩:=HX2.out.five
   go_wp2_with fail
   refine mend (P:=bodyPost _ _ _ _ _) HD2.out HM2.out HX2.out (by omega) _ _ _ _ _ ?_
   clear HD2 HM2 HX2 cX0 cX1 cX2 cX3 cX4 zX0 zX1 zX2 zX3 zX4
   intro w9 hd9 hm9 c0 c1 c2 c3 c4
   refine bodyPost_ret (v:=.agg zz) (by simp [results,Tryz.results157,go_sem,c0,c1,c2,c3,c4]) rfl ⟨vz,13,S,n,ov,rfl,Ans.er HAP.out rfl (by decide),fun _=>rfl,hd9,hm9⟩
end Go.Proofs.YtgakcpcpfkoaiaaGreatDoor.Ev
