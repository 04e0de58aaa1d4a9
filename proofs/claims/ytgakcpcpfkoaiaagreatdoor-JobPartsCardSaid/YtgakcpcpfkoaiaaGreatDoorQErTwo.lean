/-
  A text of this claim: ErTwo.
-/
import Derived.Test.YtgakcpcpfkoaiaaGreatDoorQ1
import Derived.Test.YtgakcpcpfkoaiaaGreatDoorQ6
import Derived.Test.YtgakcpcpfkoaiaaGreatDoorQ3
import Derived.Test.YtgakcpcpfkoaiaaGreatDoorQEvDeed4
set_option maxHeartbeats 4000000
set_option maxRecDepth 100000
namespace Go.Proofs.YtgakcpcpfkoaiaaGreatDoor.Ev
open Go.ChangeShapes Go.WideShapes Go.ChangeAt Go.RowKit Ov Va Ga Ex
theorem mtwo_add {w0:World} {A:Option Addr} {c E b n:Nat} {l:List No} {S:St} {ov:Value} {w:World} (a2 b2:Int) (ha:-9007199254740992≤a2∧a2≤9007199254740992) (hb:-9007199254740992≤b2∧b2≤9007199254740992) (hd:Mac w0 A c E b l S n 0 ov w) (hl:0<l.length):Calls Tryz.prog 153 #[.pointer (some ⟨b,0,none⟩),.string ⟨#[97,100,100]⟩,.int .i64 a2,.int .i64 b2] w (Rn (lift (nums 2 a2 b2) S n) w0 A c E b l ov w):=by
 obtain ⟨ha1,ha2⟩:=ha;obtain ⟨hb1,hb2⟩:=hb
 have HRI:=qq (fun (v:Va) w1 (h:Mac w0 A c E b l S n 0 ov w1)=>mright_any v h hl)
 have HF:=qq (fun (x:Int) (hx:x ≠ 0) w1 (h:Mac w0 A c E b l S n 0 ov w1)=>mfail_any x hx h hl)
 have hl0:Hid (0<l.length):=hl
 have HXE:Hid (lift (nums 2 a2 b2)=lift (chk (nv (a2+b2)))):=by show _=_;rfl
 obtain ⟨w1,hw1,hd1,hm1,hbel,hsz,hbX⟩:=mbox1 hd hl 28 zz
 have HD1:=qq hd1;have HM1:=qq hm1;have HW1:=qq hw1;have HX1:=qq hbX
 clear hd hd1 hm1 hbel hsz hw1 hbX
 go_enter Tryz.func153,Tryz.ntmps153
 go_wp2_with fail
 rw [HW1.out]
 go_wp2_with fail
 refine (mnum_any _ _).mono ?_
 rintro e w2 ⟨rfl,hb⟩
 have HD2:=qq (HD1.out.old hb)
 have HM2:=qq (HM1.out.old hb)
 have HX2:=qq (HX1.out.old hb)
 clear hb HD1 HM1 HX1  
 go_wp2_with fail
 refine (HRI.out (nv (a2+b2)) _ HD2.out).mono ?_
 rintro e w3 ⟨u,x,S1,n1,ov1,rfl,hans,hz,hd3,hm3⟩
 have HA:=qq hans;have HZ:=qq hz;have HD3:=qq hd3;have HM3:=qq (HM2.out.trans hm3);have HX3:=qq (HX2.out.mv hm3)
 clear hans hz hd3 hm3 HD2 HM2 HX2
 obtain ⟨cX0,cX1,cX2,cX3,cX4,zX0,zX1,zX2,zX3,zX4,hltX⟩:=HX3.out.five
 go_wp2_with fail
 refine mend (P:=bodyPost _ _ _ _ _) HD3.out HM3.out HX3.out (by omega) _ _ _ _ _ ?_
 clear HD3 HM3 HX3 cX0 cX1 cX2 cX3 cX4 zX0 zX1 zX2 zX3 zX4
 intro w9 hd9 hm9 c0 c1 c2 c3 c4
 refine bodyPost_ret (v:=.agg u) (by simp [results,Tryz.results153,go_sem,c0,c1,c2,c3,c4]) rfl ⟨u,x,S1,n1,ov1,rfl,by rw [HXE.out];exact HA.out,HZ.out,hd9,hm9⟩
theorem mtwo_sub {w0:World} {A:Option Addr} {c E b n:Nat} {l:List No} {S:St} {ov:Value} {w:World} (a2 b2:Int) (ha:-9007199254740992≤a2∧a2≤9007199254740992) (hb:-9007199254740992≤b2∧b2≤9007199254740992) (hd:Mac w0 A c E b l S n 0 ov w) (hl:0<l.length):Calls Tryz.prog 153 #[.pointer (some ⟨b,0,none⟩),.string ⟨#[115,117,98]⟩,.int .i64 a2,.int .i64 b2] w (Rn (lift (nums 3 a2 b2) S n) w0 A c E b l ov w):=by
 obtain ⟨ha1,ha2⟩:=ha;obtain ⟨hb1,hb2⟩:=hb
 have HRI:=qq (fun (v:Va) w1 (h:Mac w0 A c E b l S n 0 ov w1)=>mright_any v h hl)
 have HF:=qq (fun (x:Int) (hx:x ≠ 0) w1 (h:Mac w0 A c E b l S n 0 ov w1)=>mfail_any x hx h hl)
 have hl0:Hid (0<l.length):=hl
 have HXE:Hid (lift (nums 3 a2 b2)=lift (chk (nv (a2 - b2)))):=by show _=_;rfl
 obtain ⟨w1,hw1,hd1,hm1,hbel,hsz,hbX⟩:=mbox1 hd hl 28 zz
 have HD1:=qq hd1;have HM1:=qq hm1;have HW1:=qq hw1;have HX1:=qq hbX
 clear hd hd1 hm1 hbel hsz hw1 hbX
 go_enter Tryz.func153,Tryz.ntmps153
 go_wp2_with fail
 rw [HW1.out]
 go_wp2_with fail
 refine (mnum_any _ _).mono ?_
 rintro e w2 ⟨rfl,hb⟩
 have HD2:=qq (HD1.out.old hb)
 have HM2:=qq (HM1.out.old hb)
 have HX2:=qq (HX1.out.old hb)
 clear hb HD1 HM1 HX1  
 go_wp2_with fail
 refine (HRI.out (nv (a2 - b2)) _ HD2.out).mono ?_
 rintro e w3 ⟨u,x,S1,n1,ov1,rfl,hans,hz,hd3,hm3⟩
 have HA:=qq hans;have HZ:=qq hz;have HD3:=qq hd3;have HM3:=qq (HM2.out.trans hm3);have HX3:=qq (HX2.out.mv hm3)
 clear hans hz hd3 hm3 HD2 HM2 HX2
 obtain ⟨cX0,cX1,cX2,cX3,cX4,zX0,zX1,zX2,zX3,zX4,hltX⟩:=HX3.out.five
 go_wp2_with fail
 refine mend (P:=bodyPost _ _ _ _ _) HD3.out HM3.out HX3.out (by omega) _ _ _ _ _ ?_
 clear HD3 HM3 HX3 cX0 cX1 cX2 cX3 cX4 zX0 zX1 zX2 zX3 zX4
 intro w9 hd9 hm9 c0 c1 c2 c3 c4
 refine bodyPost_ret (v:=.agg u) (by simp [results,Tryz.results153,go_sem,c0,c1,c2,c3,c4]) rfl ⟨u,x,S1,n1,ov1,rfl,by rw [HXE.out];exact HA.out,HZ.out,hd9,hm9⟩
theorem mtwo_mul {w0:World} {A:Option Addr} {c E b n:Nat} {l:List No} {S:St} {ov:Value} {w:World} (a2 b2:Int) (ha:-9007199254740992≤a2∧a2≤9007199254740992) (hb:-9007199254740992≤b2∧b2≤9007199254740992) (hd:Mac w0 A c E b l S n 0 ov w) (hl:0<l.length):Calls Tryz.prog 153 #[.pointer (some ⟨b,0,none⟩),.string ⟨#[109,117,108]⟩,.int .i64 a2,.int .i64 b2] w (Rn (lift (nums 4 a2 b2) S n) w0 A c E b l ov w):=by
 obtain ⟨ha1,ha2⟩:=ha;obtain ⟨hb1,hb2⟩:=hb
 have HRI:=qq (fun (v:Va) w1 (h:Mac w0 A c E b l S n 0 ov w1)=>mright_any v h hl)
 have HF:=qq (fun (x:Int) (hx:x ≠ 0) w1 (h:Mac w0 A c E b l S n 0 ov w1)=>mfail_any x hx h hl)
 have hl0:Hid (0<l.length):=hl
 have HXE:Hid (lift (nums 4 a2 b2)=lift (chk (nv (a2 * b2)))):=by show _=_;rfl
 by_cases h0:a2=0
 · subst h0
   have HXF:Hid (lift (nums 4 0 b2)=lift (chk (nv 0))):=by show _=_;show lift (chk (nv (0 * b2)))=_;rw [Int.zero_mul]
   clear HXE
   obtain ⟨w1,hw1,hd1,hm1,hbel,hsz,hbX⟩:=mbox1 hd hl 28 zz
   have HD1:=qq hd1;have HM1:=qq hm1;have HW1:=qq hw1;have HX1:=qq hbX
   clear hd hd1 hm1 hbel hsz hw1 hbX
   go_enter Tryz.func153,Tryz.ntmps153
   go_wp2_with fail
   rw [HW1.out]
   go_wp2_with fail
   refine (mnum_any _ _).mono ?_
   rintro e w2 ⟨rfl,hb⟩
   have HD2:=qq (HD1.out.old hb)
   have HM2:=qq (HM1.out.old hb)
   have HX2:=qq (HX1.out.old hb)
   clear hb HD1 HM1 HX1  
   go_wp2_with fail
   refine (HRI.out (nv (0)) _ HD2.out).mono ?_
   rintro e w3 ⟨u,x,S1,n1,ov1,rfl,hans,hz,hd3,hm3⟩
   have HA:=qq hans;have HZ:=qq hz;have HD3:=qq hd3;have HM3:=qq (HM2.out.trans hm3);have HX3:=qq (HX2.out.mv hm3)
   clear hans hz hd3 hm3 HD2 HM2 HX2
   obtain ⟨cX0,cX1,cX2,cX3,cX4,zX0,zX1,zX2,zX3,zX4,hltX⟩:=HX3.out.five
   go_wp2_with fail
   refine mend (P:=bodyPost _ _ _ _ _) HD3.out HM3.out HX3.out (by omega) _ _ _ _ _ ?_
   clear HD3 HM3 HX3 cX0 cX1 cX2 cX3 cX4 zX0 zX1 zX2 zX3 zX4
   intro w9 hd9 hm9 c0 c1 c2 c3 c4
   refine bodyPost_ret (v:=.agg u) (by simp [results,Tryz.results153,go_sem,c0,c1,c2,c3,c4]) rfl ⟨u,x,S1,n1,ov1,rfl,by rw [HXF.out];exact HA.out,HZ.out,hd9,hm9⟩
 · have h01:(a2 != 0)=true:=by simpa using h0
   obtain ⟨Q,hQ⟩:∃ Q:Int,(9007199254740992:Int).tdiv (max a2 (-a2))=Q:=⟨_,rfl⟩
   have hQ2:Q=9007199254740992 / max a2 (-a2):=by rw [← hQ,Int.tdiv_eq_ediv_of_nonneg (by decide)]
   have hQr:=prod_in (a:=b2) h0
   rw [← hQ2,Int.mul_comm] at hQr
   have hQb:0≤Q∧Q≤9007199254740992:=by
    rw [hQ2]
    exact ⟨Int.ediv_nonneg (by decide) (by omega),Int.ediv_le_self _ (by decide)⟩
   obtain ⟨hQ0,hQ1⟩:=hQb
   have HQ:=qq hQ
   clear hQ hQ2
   have HAB:=qq (mabs_any a2 (by omega))
   by_cases h1:Q<b2
   · have HXF:Hid (lift (nums 4 a2 b2) S n=.er 14):=by
      show _=_
      rw [HXE.out];unfold chk
      rw [if_neg (fun g=>by have g1:=hQr.2 (rt_all g).1;omega)];rfl
     clear HXE hQr
     obtain ⟨w1,hw1,hd1,hm1,hbel,hsz,hbX⟩:=mbox1 hd hl 28 zz
     have HD1:=qq hd1;have HM1:=qq hm1;have HW1:=qq hw1;have HX1:=qq hbX
     clear hd hd1 hm1 hbel hsz hw1 hbX
     go_enter Tryz.func153,Tryz.ntmps153
     go_wp2_with fail
     rw [HW1.out]
     refine (HAB.out _).mono ?_
     rintro e w2 ⟨rfl,hb⟩
     have HD2:=qq (HD1.out.old hb)
     have HM2:=qq (HM1.out.old hb)
     have HX2:=qq (HX1.out.old hb)
     clear hb HD1 HM1 HX1  
     have hQW:=HQ.out
     go_wp2_with fail
     refine (HF.out 14 (by decide) _ HD2.out).mono ?_
     rintro e w3 ⟨u,x,S1,n1,ov1,rfl,hans,hz,hd3,hm3⟩
     have HA:=qq hans;have HZ:=qq hz;have HD3:=qq hd3;have HM3:=qq (HM2.out.trans hm3);have HX3:=qq (HX2.out.mv hm3)
     clear hans hz hd3 hm3 HD2 HM2 HX2
     obtain ⟨cX0,cX1,cX2,cX3,cX4,zX0,zX1,zX2,zX3,zX4,hltX⟩:=HX3.out.five
     go_wp2_with fail
     refine mend (P:=bodyPost _ _ _ _ _) HD3.out HM3.out HX3.out (by omega) _ _ _ _ _ ?_
     clear HD3 HM3 HX3 cX0 cX1 cX2 cX3 cX4 zX0 zX1 zX2 zX3 zX4
     intro w9 hd9 hm9 c0 c1 c2 c3 c4
     refine bodyPost_ret (v:=.agg u) (by simp [results,Tryz.results153,go_sem,c0,c1,c2,c3,c4]) rfl ⟨u,x,S1,n1,ov1,rfl,by rw [HXF.out];exact HA.out,HZ.out,hd9,hm9⟩
   · skip
     by_cases h2:b2 < -Q
     · have HXF:Hid (lift (nums 4 a2 b2) S n=.er 14):=by
        show _=_
        rw [HXE.out];unfold chk
        rw [if_neg (fun g=>by have g1:=hQr.2 (rt_all g).1;omega)];rfl
       clear HXE hQr
       obtain ⟨w1,hw1,hd1,hm1,hbel,hsz,hbX⟩:=mbox1 hd hl 28 zz
       have HD1:=qq hd1;have HM1:=qq hm1;have HW1:=qq hw1;have HX1:=qq hbX
       clear hd hd1 hm1 hbel hsz hw1 hbX
       go_enter Tryz.func153,Tryz.ntmps153
       go_wp2_with fail
       rw [HW1.out]
       refine (HAB.out _).mono ?_
       rintro e w2 ⟨rfl,hb⟩
       have HD2:=qq (HD1.out.old hb)
       have HM2:=qq (HM1.out.old hb)
       have HX2:=qq (HX1.out.old hb)
       clear hb HD1 HM1 HX1  
       have hQW:=HQ.out
       go_wp2_with fail
       refine (HAB.out _).mono ?_
       rintro e w3 ⟨rfl,hb⟩
       have HD3:=qq (HD2.out.old hb)
       have HM3:=qq (HM2.out.old hb)
       have HX3:=qq (HX2.out.old hb)
       clear hb HD2 HM2 HX2  
       go_wp2_with fail
       refine (HF.out 14 (by decide) _ HD3.out).mono ?_
       rintro e w4 ⟨u,x,S1,n1,ov1,rfl,hans,hz,hd3,hm3⟩
       have HA:=qq hans;have HZ:=qq hz;have HD4:=qq hd3;have HM4:=qq (HM3.out.trans hm3);have HX4:=qq (HX3.out.mv hm3)
       clear hans hz hd3 hm3 HD3 HM3 HX3
       obtain ⟨cX0,cX1,cX2,cX3,cX4,zX0,zX1,zX2,zX3,zX4,hltX⟩:=HX4.out.five
       go_wp2_with fail
       refine mend (P:=bodyPost _ _ _ _ _) HD4.out HM4.out HX4.out (by omega) _ _ _ _ _ ?_
       clear HD4 HM4 HX4 cX0 cX1 cX2 cX3 cX4 zX0 zX1 zX2 zX3 zX4
       intro w9 hd9 hm9 c0 c1 c2 c3 c4
       refine bodyPost_ret (v:=.agg u) (by simp [results,Tryz.results153,go_sem,c0,c1,c2,c3,c4]) rfl ⟨u,x,S1,n1,ov1,rfl,by rw [HXF.out];exact HA.out,HZ.out,hd9,hm9⟩
     · have hin:=hQr.1 (by omega)
       clear hQr
       obtain ⟨w1,hw1,hd1,hm1,hbel,hsz,hbX⟩:=mbox1 hd hl 28 zz
       have HD1:=qq hd1;have HM1:=qq hm1;have HW1:=qq hw1;have HX1:=qq hbX
       clear hd hd1 hm1 hbel hsz hw1 hbX
       go_enter Tryz.func153,Tryz.ntmps153
       go_wp2_with fail
       rw [HW1.out]
       refine (HAB.out _).mono ?_
       rintro e w2 ⟨rfl,hb⟩
       have HD2:=qq (HD1.out.old hb)
       have HM2:=qq (HM1.out.old hb)
       have HX2:=qq (HX1.out.old hb)
       clear hb HD1 HM1 HX1  
       have hQW:=HQ.out
       go_wp2_with fail
       refine (HAB.out _).mono ?_
       rintro e w3 ⟨rfl,hb⟩
       have HD3:=qq (HD2.out.old hb)
       have HM3:=qq (HM2.out.old hb)
       have HX3:=qq (HX2.out.old hb)
       clear hb HD2 HM2 HX2  
       go_wp2_with fail
       refine (mnum_any _ _).mono ?_
       rintro e w4 ⟨rfl,hb⟩
       have HD4:=qq (HD3.out.old hb)
       have HM4:=qq (HM3.out.old hb)
       have HX4:=qq (HX3.out.old hb)
       clear hb HD3 HM3 HX3  
       go_wp2_with fail
       refine (HRI.out (nv (a2 * b2)) _ HD4.out).mono ?_
       rintro e w5 ⟨u,x,S1,n1,ov1,rfl,hans,hz,hd3,hm3⟩
       have HA:=qq hans;have HZ:=qq hz;have HD5:=qq hd3;have HM5:=qq (HM4.out.trans hm3);have HX5:=qq (HX4.out.mv hm3)
       clear hans hz hd3 hm3 HD4 HM4 HX4
       obtain ⟨cX0,cX1,cX2,cX3,cX4,zX0,zX1,zX2,zX3,zX4,hltX⟩:=HX5.out.five
       go_wp2_with fail
       refine mend (P:=bodyPost _ _ _ _ _) HD5.out HM5.out HX5.out (by omega) _ _ _ _ _ ?_
       clear HD5 HM5 HX5 cX0 cX1 cX2 cX3 cX4 zX0 zX1 zX2 zX3 zX4
       intro w9 hd9 hm9 c0 c1 c2 c3 c4
       refine bodyPost_ret (v:=.agg u) (by simp [results,Tryz.results153,go_sem,c0,c1,c2,c3,c4]) rfl ⟨u,x,S1,n1,ov1,rfl,by rw [HXE.out];exact HA.out,HZ.out,hd9,hm9⟩
theorem mtwo_div {w0:World} {A:Option Addr} {c E b n:Nat} {l:List No} {S:St} {ov:Value} {w:World} (a2 b2:Int) (ha:-9007199254740992≤a2∧a2≤9007199254740992) (hb:-9007199254740992≤b2∧b2≤9007199254740992) (hb0:b2 ≠ 0) (hd:Mac w0 A c E b l S n 0 ov w) (hl:0<l.length):Calls Tryz.prog 153 #[.pointer (some ⟨b,0,none⟩),.string ⟨#[100,105,118]⟩,.int .i64 a2,.int .i64 b2] w (Rn (lift (nums 5 a2 b2) S n) w0 A c E b l ov w):=by
 obtain ⟨ha1,ha2⟩:=ha;obtain ⟨hb1,hb2⟩:=hb
 have HRI:=qq (fun (v:Va) w1 (h:Mac w0 A c E b l S n 0 ov w1)=>mright_any v h hl)
 have HF:=qq (fun (x:Int) (hx:x ≠ 0) w1 (h:Mac w0 A c E b l S n 0 ov w1)=>mfail_any x hx h hl)
 have hl0:Hid (0<l.length):=hl
 have h1:(b2 == 0)=false:=by simpa using hb0
 have hq:=tdiv_in (a:=a2) (b:=b2) ha1 ha2
 have hqf:=qf_rest (a:=a2) hb0
 have HXE:Hid (lift (nums 5 a2 b2)=lift (chk (nv (qf a2 b2)))):=by show _=_;rw [nums_quo hb0]
 obtain ⟨t,ht⟩:∃ t,a2.tdiv b2=t:=⟨_,rfl⟩
 obtain ⟨q,hqq⟩:∃ q,qf a2 b2=q:=⟨_,rfl⟩
 have HT:=qq ht
 rw [hqq] at HXE hqf
 have HWt:Hid (wrap64 t=t):=wrap_in (by omega)
 have HWq:Hid (wrap64 q=q):=wrap_in (by have:=qf_in (a:=a2) (b:=b2) ha1 ha2;omega)
 have HWM:Hid (wrap64 (q * b2)=q * b2):=wrap_in (by generalize q * b2=p at *;omega)
 have HWS:Hid (wrap64 (a2 - q * b2)=a2 - q * b2):=wrap_in (by generalize q * b2=p at *;omega)
 by_cases hr:a2.tmod b2=0
 · have hr1:(a2.tmod b2 != 0)=false:=by rw [hr];rfl
   have HQT:Hid (t=q):=by show _=_;rw [← ht,← hqq];unfold qf;rw [if_neg (fun h=>h.1 hr)]
   clear hq hqf hr
   obtain ⟨w1,hw1,hd1,hm1,hbel,hsz,hbX⟩:=mbox1 hd hl 28 zz
   have HD1:=qq hd1;have HM1:=qq hm1;have HW1:=qq hw1;have HX1:=qq hbX
   clear hd hd1 hm1 hbel hsz hw1 hbX
   go_enter Tryz.func153,Tryz.ntmps153
   go_wp2_with fail
   rw [HW1.out]
   repeat (first | rw [HWt.out] | rw [HQT.out] | rw [HWq.out] | rw [HWM.out] | rw [HWS.out])
   refine (mnum_any _ _).mono ?_
   rintro e w2 ⟨rfl,hb⟩
   have HD2:=qq (HD1.out.old hb)
   have HM2:=qq (HM1.out.old hb)
   have HX2:=qq (HX1.out.old hb)
   clear hb HD1 HM1 HX1  
   go_wp2_with fail
   refine (HRI.out (nv q) _ HD2.out).mono ?_
   rintro e w3 ⟨u,x,S1,n1,ov1,rfl,hans,hz,hd3,hm3⟩
   have HA:=qq hans;have HZ:=qq hz;have HD3:=qq hd3;have HM3:=qq (HM2.out.trans hm3);have HX3:=qq (HX2.out.mv hm3)
   clear hans hz hd3 hm3 HD2 HM2 HX2
   obtain ⟨cX0,cX1,cX2,cX3,cX4,zX0,zX1,zX2,zX3,zX4,hltX⟩:=HX3.out.five
   go_wp2_with fail
   refine mend (P:=bodyPost _ _ _ _ _) HD3.out HM3.out HX3.out (by omega) _ _ _ _ _ ?_
   clear HD3 HM3 HX3 cX0 cX1 cX2 cX3 cX4 zX0 zX1 zX2 zX3 zX4
   intro w9 hd9 hm9 c0 c1 c2 c3 c4
   refine bodyPost_ret (v:=.agg u) (by simp [results,Tryz.results153,go_sem,c0,c1,c2,c3,c4]) rfl ⟨u,x,S1,n1,ov1,rfl,by rw [HXE.out];exact HA.out,HZ.out,hd9,hm9⟩
 · have hr1:(a2.tmod b2 != 0)=true:=by simpa using hr
   by_cases hs:((a2<0) ≠ (b2<0))
   · have hs1:(!decide (a2<0) == decide (b2<0))=true:=by
      by_cases x:a2<0 <;> by_cases y:b2<0
      · exact absurd (by simp [x,y]) hs
      · simp [x,y]
      · simp [x,y]
      · exact absurd (by simp [x,y]) hs
     have HQT:Hid (t - 1=q):=by show _=_;rw [← ht,← hqq];unfold qf;rw [if_pos ⟨hr,hs⟩]
     clear hq hqf hr hs
     obtain ⟨w1,hw1,hd1,hm1,hbel,hsz,hbX⟩:=mbox1 hd hl 28 zz
     have HD1:=qq hd1;have HM1:=qq hm1;have HW1:=qq hw1;have HX1:=qq hbX
     clear hd hd1 hm1 hbel hsz hw1 hbX
     go_enter Tryz.func153,Tryz.ntmps153
     go_wp2_with fail
     rw [HW1.out]
     repeat (first | rw [HWt.out] | rw [HQT.out] | rw [HWq.out] | rw [HWM.out] | rw [HWS.out])
     refine (mnum_any _ _).mono ?_
     rintro e w2 ⟨rfl,hb⟩
     have HD2:=qq (HD1.out.old hb)
     have HM2:=qq (HM1.out.old hb)
     have HX2:=qq (HX1.out.old hb)
     clear hb HD1 HM1 HX1  
     go_wp2_with fail
     refine (HRI.out (nv q) _ HD2.out).mono ?_
     rintro e w3 ⟨u,x,S1,n1,ov1,rfl,hans,hz,hd3,hm3⟩
     have HA:=qq hans;have HZ:=qq hz;have HD3:=qq hd3;have HM3:=qq (HM2.out.trans hm3);have HX3:=qq (HX2.out.mv hm3)
     clear hans hz hd3 hm3 HD2 HM2 HX2
     obtain ⟨cX0,cX1,cX2,cX3,cX4,zX0,zX1,zX2,zX3,zX4,hltX⟩:=HX3.out.five
     go_wp2_with fail
     refine mend (P:=bodyPost _ _ _ _ _) HD3.out HM3.out HX3.out (by omega) _ _ _ _ _ ?_
     clear HD3 HM3 HX3 cX0 cX1 cX2 cX3 cX4 zX0 zX1 zX2 zX3 zX4
     intro w9 hd9 hm9 c0 c1 c2 c3 c4
     refine bodyPost_ret (v:=.agg u) (by simp [results,Tryz.results153,go_sem,c0,c1,c2,c3,c4]) rfl ⟨u,x,S1,n1,ov1,rfl,by rw [HXE.out];exact HA.out,HZ.out,hd9,hm9⟩
   · have hs1:(!decide (a2<0) == decide (b2<0))=false:=by
      by_cases x:a2<0 <;> by_cases y:b2<0
      · simp [x,y]
      · exact absurd (by simp [x,y]) hs
      · exact absurd (by simp [x,y]) hs
      · simp [x,y]
     have HQT:Hid (t=q):=by show _=_;rw [← ht,← hqq];unfold qf;rw [if_neg (fun h=>hs h.2)]
     clear hq hqf hr hs
     obtain ⟨w1,hw1,hd1,hm1,hbel,hsz,hbX⟩:=mbox1 hd hl 28 zz
     have HD1:=qq hd1;have HM1:=qq hm1;have HW1:=qq hw1;have HX1:=qq hbX
     clear hd hd1 hm1 hbel hsz hw1 hbX
     go_enter Tryz.func153,Tryz.ntmps153
     go_wp2_with fail
     rw [HW1.out]
     repeat (first | rw [HWt.out] | rw [HQT.out] | rw [HWq.out] | rw [HWM.out] | rw [HWS.out])
     refine (mnum_any _ _).mono ?_
     rintro e w2 ⟨rfl,hb⟩
     have HD2:=qq (HD1.out.old hb)
     have HM2:=qq (HM1.out.old hb)
     have HX2:=qq (HX1.out.old hb)
     clear hb HD1 HM1 HX1  
     go_wp2_with fail
     refine (HRI.out (nv q) _ HD2.out).mono ?_
     rintro e w3 ⟨u,x,S1,n1,ov1,rfl,hans,hz,hd3,hm3⟩
     have HA:=qq hans;have HZ:=qq hz;have HD3:=qq hd3;have HM3:=qq (HM2.out.trans hm3);have HX3:=qq (HX2.out.mv hm3)
     clear hans hz hd3 hm3 HD2 HM2 HX2
     obtain ⟨cX0,cX1,cX2,cX3,cX4,zX0,zX1,zX2,zX3,zX4,hltX⟩:=HX3.out.five
     go_wp2_with fail
     refine mend (P:=bodyPost _ _ _ _ _) HD3.out HM3.out HX3.out (by omega) _ _ _ _ _ ?_
     clear HD3 HM3 HX3 cX0 cX1 cX2 cX3 cX4 zX0 zX1 zX2 zX3 zX4
     intro w9 hd9 hm9 c0 c1 c2 c3 c4
     refine bodyPost_ret (v:=.agg u) (by simp [results,Tryz.results153,go_sem,c0,c1,c2,c3,c4]) rfl ⟨u,x,S1,n1,ov1,rfl,by rw [HXE.out];exact HA.out,HZ.out,hd9,hm9⟩
theorem mtwo_mod {w0:World} {A:Option Addr} {c E b n:Nat} {l:List No} {S:St} {ov:Value} {w:World} (a2 b2:Int) (ha:-9007199254740992≤a2∧a2≤9007199254740992) (hb:-9007199254740992≤b2∧b2≤9007199254740992) (hb0:b2 ≠ 0) (hd:Mac w0 A c E b l S n 0 ov w) (hl:0<l.length):Calls Tryz.prog 153 #[.pointer (some ⟨b,0,none⟩),.string ⟨#[109,111,100]⟩,.int .i64 a2,.int .i64 b2] w (Rn (lift (nums 6 a2 b2) S n) w0 A c E b l ov w):=by
 obtain ⟨ha1,ha2⟩:=ha;obtain ⟨hb1,hb2⟩:=hb
 have HRI:=qq (fun (v:Va) w1 (h:Mac w0 A c E b l S n 0 ov w1)=>mright_any v h hl)
 have HF:=qq (fun (x:Int) (hx:x ≠ 0) w1 (h:Mac w0 A c E b l S n 0 ov w1)=>mfail_any x hx h hl)
 have hl0:Hid (0<l.length):=hl
 have h1:(b2 == 0)=false:=by simpa using hb0
 have hq:=tdiv_in (a:=a2) (b:=b2) ha1 ha2
 have hqf:=qf_rest (a:=a2) hb0
 have HXE:Hid (lift (nums 6 a2 b2)=ret (nv (a2 - qf a2 b2 * b2))):=by show _=_;rw [nums_rest ⟨hb1,hb2⟩ hb0];unfold chk;rw [if_pos (rt_nv (by omega))];rfl
 obtain ⟨t,ht⟩:∃ t,a2.tdiv b2=t:=⟨_,rfl⟩
 obtain ⟨q,hqq⟩:∃ q,qf a2 b2=q:=⟨_,rfl⟩
 have HT:=qq ht
 rw [hqq] at HXE hqf
 have HWt:Hid (wrap64 t=t):=wrap_in (by omega)
 have HWq:Hid (wrap64 q=q):=wrap_in (by have:=qf_in (a:=a2) (b:=b2) ha1 ha2;omega)
 have HWM:Hid (wrap64 (q * b2)=q * b2):=wrap_in (by generalize q * b2=p at *;omega)
 have HWS:Hid (wrap64 (a2 - q * b2)=a2 - q * b2):=wrap_in (by generalize q * b2=p at *;omega)
 by_cases hr:a2.tmod b2=0
 · have hr1:(a2.tmod b2 != 0)=false:=by rw [hr];rfl
   have HQT:Hid (t=q):=by show _=_;rw [← ht,← hqq];unfold qf;rw [if_neg (fun h=>h.1 hr)]
   clear hq hqf hr
   obtain ⟨w1,hw1,hd1,hm1,hbel,hsz,hbX⟩:=mbox1 hd hl 28 zz
   have HD1:=qq hd1;have HM1:=qq hm1;have HW1:=qq hw1;have HX1:=qq hbX
   clear hd hd1 hm1 hbel hsz hw1 hbX
   go_enter Tryz.func153,Tryz.ntmps153
   go_wp2_with fail
   rw [HW1.out]
   repeat (first | rw [HWt.out] | rw [HQT.out] | rw [HWq.out] | rw [HWM.out] | rw [HWS.out])
   refine (mnum_any _ _).mono ?_
   rintro e w2 ⟨rfl,hb⟩
   have HD2:=qq (HD1.out.old hb)
   have HM2:=qq (HM1.out.old hb)
   have HX2:=qq (HX1.out.old hb)
   clear hb HD1 HM1 HX1  
   obtain ⟨cX0,cX1,cX2,cX3,cX4,zX0,zX1,zX2,zX3,zX4,hltX⟩:=HX2.out.five
   go_wp2_with fail
   refine mend (P:=bodyPost _ _ _ _ _) HD2.out HM2.out HX2.out (by omega) _ _ _ _ _ ?_
   clear HD2 HM2 HX2 cX0 cX1 cX2 cX3 cX4 zX0 zX1 zX2 zX3 zX4
   intro w9 hd9 hm9 c0 c1 c2 c3 c4
   refine bodyPost_ret (v:=.agg #[.int .i64 0,.int .i64 (a2 - q * b2),.string ⟨#[]⟩,.int .i64 0,.int .i64 0]) (by simp [results,Tryz.results153,go_sem,c0,c1,c2,c3,c4]) rfl ⟨nv (a2 - q * b2),0,S,n,ov,rfl,by rw [HXE.out];exact Ans.ok rfl rfl,fun h=>absurd rfl h,hd9,hm9⟩
 · have hr1:(a2.tmod b2 != 0)=true:=by simpa using hr
   by_cases hs:((a2<0) ≠ (b2<0))
   · have hs1:(!decide (a2<0) == decide (b2<0))=true:=by
      by_cases x:a2<0 <;> by_cases y:b2<0
      · exact absurd (by simp [x,y]) hs
      · simp [x,y]
      · simp [x,y]
      · exact absurd (by simp [x,y]) hs
     have HQT:Hid (t - 1=q):=by show _=_;rw [← ht,← hqq];unfold qf;rw [if_pos ⟨hr,hs⟩]
     clear hq hqf hr hs
     obtain ⟨w1,hw1,hd1,hm1,hbel,hsz,hbX⟩:=mbox1 hd hl 28 zz
     have HD1:=qq hd1;have HM1:=qq hm1;have HW1:=qq hw1;have HX1:=qq hbX
     clear hd hd1 hm1 hbel hsz hw1 hbX
     go_enter Tryz.func153,Tryz.ntmps153
     go_wp2_with fail
     rw [HW1.out]
     repeat (first | rw [HWt.out] | rw [HQT.out] | rw [HWq.out] | rw [HWM.out] | rw [HWS.out])
     refine (mnum_any _ _).mono ?_
     rintro e w2 ⟨rfl,hb⟩
     have HD2:=qq (HD1.out.old hb)
     have HM2:=qq (HM1.out.old hb)
     have HX2:=qq (HX1.out.old hb)
     clear hb HD1 HM1 HX1  
     obtain ⟨cX0,cX1,cX2,cX3,cX4,zX0,zX1,zX2,zX3,zX4,hltX⟩:=HX2.out.five
     go_wp2_with fail
     refine mend (P:=bodyPost _ _ _ _ _) HD2.out HM2.out HX2.out (by omega) _ _ _ _ _ ?_
     clear HD2 HM2 HX2 cX0 cX1 cX2 cX3 cX4 zX0 zX1 zX2 zX3 zX4
     intro w9 hd9 hm9 c0 c1 c2 c3 c4
     refine bodyPost_ret (v:=.agg #[.int .i64 0,.int .i64 (a2 - q * b2),.string ⟨#[]⟩,.int .i64 0,.int .i64 0]) (by simp [results,Tryz.results153,go_sem,c0,c1,c2,c3,c4]) rfl ⟨nv (a2 - q * b2),0,S,n,ov,rfl,by rw [HXE.out];exact Ans.ok rfl rfl,fun h=>absurd rfl h,hd9,hm9⟩
   · have hs1:(!decide (a2<0) == decide (b2<0))=false:=by
      by_cases x:a2<0 <;> by_cases y:b2<0
      · simp [x,y]
      · exact absurd (by simp [x,y]) hs
      · exact absurd (by simp [x,y]) hs
      · simp [x,y]
     have HQT:Hid (t=q):=by show _=_;rw [← ht,← hqq];unfold qf;rw [if_neg (fun h=>hs h.2)]
     clear hq hqf hr hs
     obtain ⟨w1,hw1,hd1,hm1,hbel,hsz,hbX⟩:=mbox1 hd hl 28 zz
     have HD1:=qq hd1;have HM1:=qq hm1;have HW1:=qq hw1;have HX1:=qq hbX
     clear hd hd1 hm1 hbel hsz hw1 hbX
     go_enter Tryz.func153,Tryz.ntmps153
     go_wp2_with fail
     rw [HW1.out]
     repeat (first | rw [HWt.out] | rw [HQT.out] | rw [HWq.out] | rw [HWM.out] | rw [HWS.out])
     refine (mnum_any _ _).mono ?_
     rintro e w2 ⟨rfl,hb⟩
     have HD2:=qq (HD1.out.old hb)
     have HM2:=qq (HM1.out.old hb)
     have HX2:=qq (HX1.out.old hb)
     clear hb HD1 HM1 HX1  
     obtain ⟨cX0,cX1,cX2,cX3,cX4,zX0,zX1,zX2,zX3,zX4,hltX⟩:=HX2.out.five
     go_wp2_with fail
     refine mend (P:=bodyPost _ _ _ _ _) HD2.out HM2.out HX2.out (by omega) _ _ _ _ _ ?_
     clear HD2 HM2 HX2 cX0 cX1 cX2 cX3 cX4 zX0 zX1 zX2 zX3 zX4
     intro w9 hd9 hm9 c0 c1 c2 c3 c4
     refine bodyPost_ret (v:=.agg #[.int .i64 0,.int .i64 (a2 - q * b2),.string ⟨#[]⟩,.int .i64 0,.int .i64 0]) (by simp [results,Tryz.results153,go_sem,c0,c1,c2,c3,c4]) rfl ⟨nv (a2 - q * b2),0,S,n,ov,rfl,by rw [HXE.out];exact Ans.ok rfl rfl,fun h=>absurd rfl h,hd9,hm9⟩
theorem mtwo_div0 {w0:World} {A:Option Addr} {c E b n:Nat} {l:List No} {S:St} {ov:Value} {w:World} (a2:Int) (hd:Mac w0 A c E b l S n 0 ov w) (hl:0<l.length):Calls Tryz.prog 153 #[.pointer (some ⟨b,0,none⟩),.string ⟨#[100,105,118]⟩,.int .i64 a2,.int .i64 0] w (Rn (lift (nums 5 a2 0) S n) w0 A c E b l ov w):=by
 have HF:=qq (fun (x:Int) (hx:x ≠ 0) w1 (h:Mac w0 A c E b l S n 0 ov w1)=>mfail_any x hx h hl)
 have HXF:Hid (lift (nums 5 a2 0) S n=.er 16):=by show _=_;rw [nums_zero (.inl rfl)];rfl
 have hl0:Hid (0<l.length):=hl
 obtain ⟨w1,hw1,hd1,hm1,hbel,hsz,hbX⟩:=mbox1 hd hl 28 zz
 have HD1:=qq hd1;have HM1:=qq hm1;have HW1:=qq hw1;have HX1:=qq hbX
 clear hd hd1 hm1 hbel hsz hw1 hbX
 go_enter Tryz.func153,Tryz.ntmps153
 go_wp2_with fail
 rw [HW1.out]
 refine (HF.out 16 (by decide) _ HD1.out).mono ?_
 rintro e w2 ⟨u,x,S1,n1,ov1,rfl,hans,hz,hd3,hm3⟩
 have HA:=qq hans;have HZ:=qq hz;have HD2:=qq hd3;have HM2:=qq (HM1.out.trans hm3);have HX2:=qq (HX1.out.mv hm3)
 clear hans hz hd3 hm3 HD1 HM1 HX1
 obtain ⟨cX0,cX1,cX2,cX3,cX4,zX0,zX1,zX2,zX3,zX4,hltX⟩:=HX2.out.five
 go_wp2_with fail
 refine mend (P:=bodyPost _ _ _ _ _) HD2.out HM2.out HX2.out (by omega) _ _ _ _ _ ?_
 clear HD2 HM2 HX2 cX0 cX1 cX2 cX3 cX4 zX0 zX1 zX2 zX3 zX4
 intro w9 hd9 hm9 c0 c1 c2 c3 c4
 refine bodyPost_ret (v:=.agg u) (by simp [results,Tryz.results153,go_sem,c0,c1,c2,c3,c4]) rfl ⟨u,x,S1,n1,ov1,rfl,by rw [HXF.out];exact HA.out,HZ.out,hd9,hm9⟩
theorem mtwo_mod0 {w0:World} {A:Option Addr} {c E b n:Nat} {l:List No} {S:St} {ov:Value} {w:World} (a2:Int) (hd:Mac w0 A c E b l S n 0 ov w) (hl:0<l.length):Calls Tryz.prog 153 #[.pointer (some ⟨b,0,none⟩),.string ⟨#[109,111,100]⟩,.int .i64 a2,.int .i64 0] w (Rn (lift (nums 6 a2 0) S n) w0 A c E b l ov w):=by
 have HF:=qq (fun (x:Int) (hx:x ≠ 0) w1 (h:Mac w0 A c E b l S n 0 ov w1)=>mfail_any x hx h hl)
 have HXF:Hid (lift (nums 6 a2 0) S n=.er 16):=by show _=_;rw [nums_zero (.inr rfl)];rfl
 have hl0:Hid (0<l.length):=hl
 obtain ⟨w1,hw1,hd1,hm1,hbel,hsz,hbX⟩:=mbox1 hd hl 28 zz
 have HD1:=qq hd1;have HM1:=qq hm1;have HW1:=qq hw1;have HX1:=qq hbX
 clear hd hd1 hm1 hbel hsz hw1 hbX
 go_enter Tryz.func153,Tryz.ntmps153
 go_wp2_with fail
 rw [HW1.out]
 refine (HF.out 16 (by decide) _ HD1.out).mono ?_
 rintro e w2 ⟨u,x,S1,n1,ov1,rfl,hans,hz,hd3,hm3⟩
 have HA:=qq hans;have HZ:=qq hz;have HD2:=qq hd3;have HM2:=qq (HM1.out.trans hm3);have HX2:=qq (HX1.out.mv hm3)
 clear hans hz hd3 hm3 HD1 HM1 HX1
 obtain ⟨cX0,cX1,cX2,cX3,cX4,zX0,zX1,zX2,zX3,zX4,hltX⟩:=HX2.out.five
 go_wp2_with fail
 refine mend (P:=bodyPost _ _ _ _ _) HD2.out HM2.out HX2.out (by omega) _ _ _ _ _ ?_
 clear HD2 HM2 HX2 cX0 cX1 cX2 cX3 cX4 zX0 zX1 zX2 zX3 zX4
 intro w9 hd9 hm9 c0 c1 c2 c3 c4
 refine bodyPost_ret (v:=.agg u) (by simp [results,Tryz.results153,go_sem,c0,c1,c2,c3,c4]) rfl ⟨u,x,S1,n1,ov1,rfl,by rw [HXF.out];exact HA.out,HZ.out,hd9,hm9⟩
end Go.Proofs.YtgakcpcpfkoaiaaGreatDoor.Ev
