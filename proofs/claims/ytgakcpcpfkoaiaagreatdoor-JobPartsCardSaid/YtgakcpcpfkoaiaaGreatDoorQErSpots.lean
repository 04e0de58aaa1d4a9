/-
  A text of this claim: ErSpots.
-/
import Derived.Test.YtgakcpcpfkoaiaaGreatDoorQ1
import Derived.Test.YtgakcpcpfkoaiaaGreatDoorQ7
import Derived.Test.YtgakcpcpfkoaiaaGreatDoorQEvDeed4
import Derived.Test.YtgakcpcpfkoaiaaGreatDoorQ4
import Derived.Deep.Cut
import Derived.Test.YtgakcpcpfkoaiaaGreatDoorQ6
set_option maxHeartbeats 4000000
set_option maxRecDepth 100000
namespace Go.Proofs.YtgakcpcpfkoaiaaGreatDoor.Ev
open Go.ChangeShapes Go.WideShapes Go.ChangeAt Go.RowKit Ov Va Ga Ex
theorem spot_eql (u v:Int) (w:World):(binOp .eql 26 (.agg #[.int .i64 u,.int .i64 v]) (.agg #[.int .i64 0,.int .i64 0])).run Tryz.prog w=.ok (.bool (u == 0 && v == 0)) w:=by
 have u1:=Tryz.underlying3
 have hS2:Tryz.prog.underlying 26=some (.struct (Tryz.prog.fieldsOf 26)):=by kernel_rfl
 have hp2:Tryz.prog.stoodInHeld 26=false:=by kernel_rfl
 rw [run_eql_struct,show (10000:Nat)=9999+1 from rfl,run_equalIn_struct w 9999 26 _ _ hS2 hp2]
 clear hS2 hp2
 simp only [Program.fieldsOf,Tryz.underlying26]
 go_simp
 by_cases h1:u=0 <;> by_cases h2:v=0 <;> simp [h1,h2]
theorem mspots_add {w0:World} {A:Option Addr} {c E b n:Nat} {l:List No} {S:St} {ov:Value} {w:World} (x2 y2 u2 v2:Int) (ha:rb ⟨x2,y2⟩=true) (hb:rb ⟨u2,v2⟩=true) (hd:Mac w0 A c E b l S n 0 ov w) (hl:0<l.length):Calls Tryz.prog 151 #[.pointer (some ⟨b,0,none⟩),.string ⟨#[97,100,100]⟩,.agg #[.int .i64 x2,.int .i64 y2],.agg #[.int .i64 u2,.int .i64 v2]] w (Rn (lift (spots 2 ⟨x2,y2⟩ ⟨u2,v2⟩) S n) w0 A c E b l ov w):=by
 have HRI:=qq (fun (v:Va) w1 (h:Mac w0 A c E b l S n 0 ov w1)=>mright_any v h hl)
 obtain ⟨⟨hx1,hx2⟩,hy1,hy2⟩:=rb_xy ha;obtain ⟨⟨hu1,hu2⟩,hv1,hv2⟩:=rb_xy hb
 have HXE:Hid (lift (spots 2 ⟨x2,y2⟩ ⟨u2,v2⟩)=lift (chk (pv (x2+u2) (y2+v2)))):=by show _=_;rfl
 clear ha hb
 obtain ⟨w1,hw1,hd1,hm1,hbel,hsz,hbA,hbB,hbX,hbV⟩:=mbox4 hd hl 26 [.int .i64 x2,.int .i64 y2] 26 [.int .i64 u2,.int .i64 v2] 28 zz 28 [.int .i64 2,.int .i64 0,.string ⟨#[]⟩,.int .i64 0,.int .i64 0]
 have HD1:=qq hd1;have HM1:=qq hm1;have HW1:=qq hw1;have HA1:=qq hbA;have HB1:=qq hbB;have HX1:=qq hbX;have HV1:=qq hbV
 clear hd hd1 hm1 hbel hsz hw1 hbA hbB hbX hbV
 go_enter Tryz.func151,Tryz.ntmps151
 go_upto_region 12 with fail
 rw [HW1.out]
 have qA0:=HA1.out.blk.c 0 _ rfl
 have qA1:=HA1.out.blk.c 1 _ rfl
 have qB0:=HB1.out.blk.c 0 _ rfl
 have qB1:=HB1.out.blk.c 1 _ rfl
 have cV3:=HV1.out.blk.c 3 _ rfl;have zV3:=HV1.out.blk.f 3 _ rfl
 have cV4:=HV1.out.blk.c 4 _ rfl;have zV4:=HV1.out.blk.f 4 _ rfl
 have qV0:=HV1.out.blk.c 0 _ rfl
 have qV1:=HV1.out.blk.c 1 _ rfl
 have qV2:=HV1.out.blk.c 2 _ rfl
 go_wp2_with fail
 refine mput2 (P:=fun W=>Calls _ _ _ (W) _) HD1.out HM1.out HV1.out HX1.out (by omega) (by omega) _ _ ?_
 clear HD1 HM1 HA1 HB1 HX1 HV1 qA0 qA1 qB0 qB1 cV3 zV3 cV4 zV4 qV0 qV1 qV2
 intro w2 hd2 hm2 hv2 hx2
 have HD2:=qq hd2;have HM2:=qq hm2;have HV2:=qq hv2;have HX2:=qq hx2
 clear hd2 hm2 hv2 hx2
 refine (HRI.out (pv (x2+u2) (y2+v2)) _ HD2.out).mono ?_
 rintro e w3 ⟨u,x,S1,n1,ov1,rfl,hans,hz,hd3,hm3⟩
 have HA:=qq hans;have HZ:=qq hz;have HD3:=qq hd3;have HM3:=qq (HM2.out.trans hm3);have HX3:=qq (HX2.out.mv hm3)
 clear hans hz hd3 hm3 HD2 HM2 HV2 HX2  
 obtain ⟨cX0,cX1,cX2,cX3,cX4,zX0,zX1,zX2,zX3,zX4,hltX⟩:=HX3.out.five
 go_wp2_with fail
 refine mend (P:=bodyPost _ _ _ _ _) HD3.out HM3.out HX3.out (by omega) _ _ _ _ _ ?_
 clear HD3 HM3 HX3 cX0 cX1 cX2 cX3 cX4 zX0 zX1 zX2 zX3 zX4
 intro w9 hd9 hm9 c0 c1 c2 c3 c4
 refine bodyPost_ret (v:=.agg u) (by simp [results,Tryz.results151,go_sem,c0,c1,c2,c3,c4]) rfl ⟨u,x,S1,n1,ov1,rfl,by rw [HXE.out];exact HA.out,HZ.out,hd9,hm9⟩
theorem mspots_sub {w0:World} {A:Option Addr} {c E b n:Nat} {l:List No} {S:St} {ov:Value} {w:World} (x2 y2 u2 v2:Int) (ha:rb ⟨x2,y2⟩=true) (hb:rb ⟨u2,v2⟩=true) (hd:Mac w0 A c E b l S n 0 ov w) (hl:0<l.length):Calls Tryz.prog 151 #[.pointer (some ⟨b,0,none⟩),.string ⟨#[115,117,98]⟩,.agg #[.int .i64 x2,.int .i64 y2],.agg #[.int .i64 u2,.int .i64 v2]] w (Rn (lift (spots 3 ⟨x2,y2⟩ ⟨u2,v2⟩) S n) w0 A c E b l ov w):=by
 have HRI:=qq (fun (v:Va) w1 (h:Mac w0 A c E b l S n 0 ov w1)=>mright_any v h hl)
 obtain ⟨⟨hx1,hx2⟩,hy1,hy2⟩:=rb_xy ha;obtain ⟨⟨hu1,hu2⟩,hv1,hv2⟩:=rb_xy hb
 have HXE:Hid (lift (spots 3 ⟨x2,y2⟩ ⟨u2,v2⟩)=lift (chk (pv (x2 - u2) (y2 - v2)))):=by show _=_;rfl
 clear ha hb
 obtain ⟨w1,hw1,hd1,hm1,hbel,hsz,hbA,hbB,hbX,hbV⟩:=mbox4 hd hl 26 [.int .i64 x2,.int .i64 y2] 26 [.int .i64 u2,.int .i64 v2] 28 zz 28 [.int .i64 2,.int .i64 0,.string ⟨#[]⟩,.int .i64 0,.int .i64 0]
 have HD1:=qq hd1;have HM1:=qq hm1;have HW1:=qq hw1;have HA1:=qq hbA;have HB1:=qq hbB;have HX1:=qq hbX;have HV1:=qq hbV
 clear hd hd1 hm1 hbel hsz hw1 hbA hbB hbX hbV
 go_enter Tryz.func151,Tryz.ntmps151
 go_upto_region 14 with fail
 rw [HW1.out]
 have qA0:=HA1.out.blk.c 0 _ rfl
 have qA1:=HA1.out.blk.c 1 _ rfl
 have qB0:=HB1.out.blk.c 0 _ rfl
 have qB1:=HB1.out.blk.c 1 _ rfl
 have cV3:=HV1.out.blk.c 3 _ rfl;have zV3:=HV1.out.blk.f 3 _ rfl
 have cV4:=HV1.out.blk.c 4 _ rfl;have zV4:=HV1.out.blk.f 4 _ rfl
 have qV0:=HV1.out.blk.c 0 _ rfl
 have qV1:=HV1.out.blk.c 1 _ rfl
 have qV2:=HV1.out.blk.c 2 _ rfl
 go_wp2_with fail
 refine mput2 (P:=fun W=>Calls _ _ _ (W) _) HD1.out HM1.out HV1.out HX1.out (by omega) (by omega) _ _ ?_
 clear HD1 HM1 HA1 HB1 HX1 HV1 qA0 qA1 qB0 qB1 cV3 zV3 cV4 zV4 qV0 qV1 qV2
 intro w2 hd2 hm2 hv2 hx2
 have HD2:=qq hd2;have HM2:=qq hm2;have HV2:=qq hv2;have HX2:=qq hx2
 clear hd2 hm2 hv2 hx2
 refine (HRI.out (pv (x2 - u2) (y2 - v2)) _ HD2.out).mono ?_
 rintro e w3 ⟨u,x,S1,n1,ov1,rfl,hans,hz,hd3,hm3⟩
 have HA:=qq hans;have HZ:=qq hz;have HD3:=qq hd3;have HM3:=qq (HM2.out.trans hm3);have HX3:=qq (HX2.out.mv hm3)
 clear hans hz hd3 hm3 HD2 HM2 HV2 HX2  
 obtain ⟨cX0,cX1,cX2,cX3,cX4,zX0,zX1,zX2,zX3,zX4,hltX⟩:=HX3.out.five
 go_wp2_with fail
 refine mend (P:=bodyPost _ _ _ _ _) HD3.out HM3.out HX3.out (by omega) _ _ _ _ _ ?_
 clear HD3 HM3 HX3 cX0 cX1 cX2 cX3 cX4 zX0 zX1 zX2 zX3 zX4
 intro w9 hd9 hm9 c0 c1 c2 c3 c4
 refine bodyPost_ret (v:=.agg u) (by simp [results,Tryz.results151,go_sem,c0,c1,c2,c3,c4]) rfl ⟨u,x,S1,n1,ov1,rfl,by rw [HXE.out];exact HA.out,HZ.out,hd9,hm9⟩
theorem mspots_mul {w0:World} {A:Option Addr} {c E b n:Nat} {l:List No} {S:St} {ov:Value} {w:World} (x2 y2 u2 v2:Int) (ha:rb ⟨x2,y2⟩=true) (hb:rb ⟨u2,v2⟩=true) (hd:Mac w0 A c E b l S n 0 ov w) (hl:0<l.length):Calls Tryz.prog 151 #[.pointer (some ⟨b,0,none⟩),.string ⟨#[109,117,108]⟩,.agg #[.int .i64 x2,.int .i64 y2],.agg #[.int .i64 u2,.int .i64 v2]] w (Rn (lift (spots 4 ⟨x2,y2⟩ ⟨u2,v2⟩) S n) w0 A c E b l ov w):=by
 have HRI:=qq (fun (v:Va) w1 (h:Mac w0 A c E b l S n 0 ov w1)=>mright_any v h hl)
 obtain ⟨⟨hx1,hx2⟩,hy1,hy2⟩:=rb_xy ha;obtain ⟨⟨hu1,hu2⟩,hv1,hv2⟩:=rb_xy hb
 have HXE:Hid (lift (spots 4 ⟨x2,y2⟩ ⟨u2,v2⟩)=lift (chk (pv (x2 * u2 - y2 * v2) (x2 * v2+y2 * u2)))):=by show _=_;rfl
 have HMU:=qq (rmul_any ha hb)
 clear ha hb
 obtain ⟨w1,hw1,hd1,hm1,hbel,hsz,hbA,hbB,hbX,hbV⟩:=mbox4 hd hl 26 [.int .i64 x2,.int .i64 y2] 26 [.int .i64 u2,.int .i64 v2] 28 zz 28 [.int .i64 2,.int .i64 0,.string ⟨#[]⟩,.int .i64 0,.int .i64 0]
 have HD1:=qq hd1;have HM1:=qq hm1;have HW1:=qq hw1;have HA1:=qq hbA;have HB1:=qq hbB;have HX1:=qq hbX;have HV1:=qq hbV
 clear hd hd1 hm1 hbel hsz hw1 hbA hbB hbX hbV
 go_enter Tryz.func151,Tryz.ntmps151
 go_wp2_with fail
 rw [HW1.out]
 refine (HMU.out _).mono ?_
 rintro e w2 ⟨rfl,hb⟩
 have HD2:=qq (HD1.out.old hb)
 have HM2:=qq (HM1.out.old hb)
 have HA2:=qq (HA1.out.old hb)
 have HB2:=qq (HB1.out.old hb)
 have HX2:=qq (HX1.out.old hb)
 have HV2:=qq (HV1.out.old hb)
 clear hb HD1 HM1 HA1 HB1 HX1 HV1  
 have cV3:=HV2.out.blk.c 3 _ rfl;have zV3:=HV2.out.blk.f 3 _ rfl
 have cV4:=HV2.out.blk.c 4 _ rfl;have zV4:=HV2.out.blk.f 4 _ rfl
 have qV0:=HV2.out.blk.c 0 _ rfl
 have qV1:=HV2.out.blk.c 1 _ rfl
 have qV2:=HV2.out.blk.c 2 _ rfl
 go_wp2_with fail
 refine mput2 (P:=fun W=>Calls _ _ _ (W) _) HD2.out HM2.out HV2.out HX2.out (by omega) (by omega) _ _ ?_
 clear HD2 HM2 HA2 HB2 HX2 HV2 cV3 zV3 cV4 zV4 qV0 qV1 qV2
 intro w3 hd2 hm2 hv2 hx2
 have HD3:=qq hd2;have HM3:=qq hm2;have HV3:=qq hv2;have HX3:=qq hx2
 clear hd2 hm2 hv2 hx2
 refine (HRI.out (pv (x2 * u2 - y2 * v2) (x2 * v2+y2 * u2)) _ HD3.out).mono ?_
 rintro e w4 ⟨u,x,S1,n1,ov1,rfl,hans,hz,hd3,hm3⟩
 have HA:=qq hans;have HZ:=qq hz;have HD4:=qq hd3;have HM4:=qq (HM3.out.trans hm3);have HX4:=qq (HX3.out.mv hm3)
 clear hans hz hd3 hm3 HD3 HM3 HV3 HX3  
 obtain ⟨cX0,cX1,cX2,cX3,cX4,zX0,zX1,zX2,zX3,zX4,hltX⟩:=HX4.out.five
 go_wp2_with fail
 refine mend (P:=bodyPost _ _ _ _ _) HD4.out HM4.out HX4.out (by omega) _ _ _ _ _ ?_
 clear HD4 HM4 HX4 cX0 cX1 cX2 cX3 cX4 zX0 zX1 zX2 zX3 zX4
 intro w9 hd9 hm9 c0 c1 c2 c3 c4
 refine bodyPost_ret (v:=.agg u) (by simp [results,Tryz.results151,go_sem,c0,c1,c2,c3,c4]) rfl ⟨u,x,S1,n1,ov1,rfl,by rw [HXE.out];exact HA.out,HZ.out,hd9,hm9⟩
theorem mspots_div {w0:World} {A:Option Addr} {c E b n:Nat} {l:List No} {S:St} {ov:Value} {w:World} (x2 y2 u2 v2:Int) (ha:rb ⟨x2,y2⟩=true) (hb:rb ⟨u2,v2⟩=true) (hd:Mac w0 A c E b l S n 0 ov w) (hl:0<l.length):Calls Tryz.prog 151 #[.pointer (some ⟨b,0,none⟩),.string ⟨#[100,105,118]⟩,.agg #[.int .i64 x2,.int .i64 y2],.agg #[.int .i64 u2,.int .i64 v2]] w (Rn (lift (spots 5 ⟨x2,y2⟩ ⟨u2,v2⟩) S n) w0 A c E b l ov w):=by
 have HRI:=qq (fun (v:Va) w1 (h:Mac w0 A c E b l S n 0 ov w1)=>mright_any v h hl)
 have HF:=qq (fun (x:Int) (hx:x ≠ 0) w1 (h:Mac w0 A c E b l S n 0 ov w1)=>mfail_at x hx h)
 by_cases h0:(⟨u2,v2⟩:Pt)=Pt.zero
 · have hu0:u2=0:=congrArg Pt.x h0;have hv0:v2=0:=congrArg Pt.y h0
   subst hu0;subst hv0
   have HXE:Hid (lift (spots 5 ⟨x2,y2⟩ ⟨0,0⟩) S n=.er 16):=by show lift (spots 5 ⟨x2,y2⟩ Pt.zero) S n=_;rw [spots_zero (by decide)];rfl
   clear ha hb h0
   obtain ⟨w1,hw1,hd1,hm1,hbel,hsz,hbA,hbB,hbX,hbV⟩:=mbox4 hd hl 26 [.int .i64 x2,.int .i64 y2] 26 [.int .i64 0,.int .i64 0] 28 zz 28 [.int .i64 2,.int .i64 0,.string ⟨#[]⟩,.int .i64 0,.int .i64 0]
   have HD1:=qq hd1;have HM1:=qq hm1;have HW1:=qq hw1;have HA1:=qq hbA;have HB1:=qq hbB;have HX1:=qq hbX;have HV1:=qq hbV
   clear hd hd1 hm1 hbel hsz hw1 hbA hbB hbX hbV
   go_enter Tryz.func151,Tryz.ntmps151
   go_wp2_with fail
   rw [HW1.out]
   refine (HF.out 16 (by decide) _ HD1.out).mono ?_
   rintro e w2 ⟨rfl,hd3,hm3⟩
   have HD2:=qq hd3;have HM2:=qq (HM1.out.trans hm3);have HX2:=qq (HX1.out.mv hm3)
   clear hd3 hm3 HD1 HM1 HA1 HB1 HX1 HV1  
   obtain ⟨cX0,cX1,cX2,cX3,cX4,zX0,zX1,zX2,zX3,zX4,hltX⟩:=HX2.out.five
   go_wp2_with fail
   refine mend (P:=bodyPost _ _ _ _ _) HD2.out HM2.out HX2.out (by omega) _ _ _ _ _ ?_
   clear HD2 HM2 HX2 cX0 cX1 cX2 cX3 cX4 zX0 zX1 zX2 zX3 zX4
   intro w9 hd9 hm9 c0 c1 c2 c3 c4
   refine bodyPost_ret (v:=.agg zz) (by simp [results,Tryz.results151,go_sem,c0,c1,c2,c3,c4]) rfl ⟨vz,16,S,n,ov,rfl,by rw [HXE.out];exact Ans.er rfl rfl (by decide),fun _=>rfl,hd9,hm9⟩
 · have hq:=Pt.quo_right ha h0;have hr:=Pt.rest_right (a:=⟨x2,y2⟩) hb h0
   have HDV:=qq (rdiv_any ha hb h0)
   have hE:∀ W,(binOp .eql 26 (.agg #[.int .i64 u2,.int .i64 v2]) (.agg #[.int .i64 0,.int .i64 0])).run Tryz.prog W=.ok (.bool false) W:=fun W=>by
    rw [spot_eql];congr 2
    rw [Bool.and_eq_false_iff,beq_eq_false_iff_ne,beq_eq_false_iff_ne]
    exact Decidable.not_and_iff_or_not.1 fun g=>h0 (by rw [g.1,g.2];rfl)
   have HXE:Hid (lift (spots 5 ⟨x2,y2⟩ ⟨u2,v2⟩) S n=.ok (pv (Pt.quo ⟨x2,y2⟩ ⟨u2,v2⟩).x (Pt.quo ⟨x2,y2⟩ ⟨u2,v2⟩).y) S n):=by show _=_;unfold spots;rw [if_neg (by decide),if_neg (by decide),if_neg (by decide),if_neg h0,if_pos rfl];rfl
   have HXC:Hid (lift (chk (pv (Pt.quo ⟨x2,y2⟩ ⟨u2,v2⟩).x (Pt.quo ⟨x2,y2⟩ ⟨u2,v2⟩).y)) S n=lift (spots 5 ⟨x2,y2⟩ ⟨u2,v2⟩) S n):=by show _=_;rw [HXE.out];unfold chk;rw [if_pos (rt_pv (x:=(Pt.quo ⟨x2,y2⟩ ⟨u2,v2⟩).x) (y:=(Pt.quo ⟨x2,y2⟩ ⟨u2,v2⟩).y) hq)];rfl
   obtain ⟨⟨hx1,hx2⟩,hy1,hy2⟩:=rb_xy ha;obtain ⟨⟨hu1,hu2⟩,hv1,hv2⟩:=rb_xy hb
   rw [← HXC.out]
   clear HXE HXC h0 ha hb
   generalize hQ:Pt.quo ⟨x2,y2⟩ ⟨u2,v2⟩=Q at *
   generalize hR:Pt.rest ⟨x2,y2⟩ ⟨u2,v2⟩=R at *
   clear hQ hR
   have HRQ:=qq (rspot_any Q.x Q.y);have HRR:=qq (rspot_any R.x R.y)
   rw [show (⟨Q.x,Q.y⟩:Pt)=Q from rfl,hq] at HRQ
   rw [show (⟨R.x,R.y⟩:Pt)=R from rfl,hr] at HRR
   clear hq hr
   obtain ⟨w1,hw1,hd1,hm1,hbel,hsz,hbA,hbB,hbX,hbV⟩:=mbox4 hd hl 26 [.int .i64 x2,.int .i64 y2] 26 [.int .i64 u2,.int .i64 v2] 28 zz 28 [.int .i64 2,.int .i64 0,.string ⟨#[]⟩,.int .i64 0,.int .i64 0]
   have HD1:=qq hd1;have HM1:=qq hm1;have HW1:=qq hw1;have HA1:=qq hbA;have HB1:=qq hbB;have HX1:=qq hbX;have HV1:=qq hbV
   clear hd hd1 hm1 hbel hsz hw1 hbA hbB hbX hbV
   go_enter Tryz.func151,Tryz.ntmps151
   go_upto_region 3 with fail
   rw [HW1.out]
   have qA0:=HA1.out.blk.c 0 _ rfl
   have qA1:=HA1.out.blk.c 1 _ rfl
   have qB0:=HB1.out.blk.c 0 _ rfl
   have qB1:=HB1.out.blk.c 1 _ rfl
   go_wp2_with fail
   all_goals
    refine (HDV.out _).mono ?_
    rintro e w2 ⟨rfl,hb⟩
    have HD2:=qq (HD1.out.old hb)
    have HM2:=qq (HM1.out.old hb)
    have HA2:=qq (HA1.out.old hb)
    have HB2:=qq (HB1.out.old hb)
    have HX2:=qq (HX1.out.old hb)
    have HV2:=qq (HV1.out.old hb)
    clear hb HD1 HM1 HA1 HB1 HX1 HV1 qA0 qA1 qB0 qB1 
    have hltV2:=HV2.out.blk.lt
    go_wp2_with fail
    refine (HRQ.out _).mono ?_
    rintro e w3 ⟨rfl,hb⟩
    have HD3:=qq (((HD2.out.old (box1 _ (.cells #[.int .i64 Q.x,.int .i64 Q.y] 26))).old (box1 _ (.cells #[.int .i64 R.x,.int .i64 R.y] 26))).old hb)
    have HM3:=qq (((HM2.out.old (box1 _ (.cells #[.int .i64 Q.x,.int .i64 Q.y] 26))).old (box1 _ (.cells #[.int .i64 R.x,.int .i64 R.y] 26))).old hb)
    have HA3:=qq (((HA2.out.old (box1 _ (.cells #[.int .i64 Q.x,.int .i64 Q.y] 26))).old (box1 _ (.cells #[.int .i64 R.x,.int .i64 R.y] 26))).old hb)
    have HB3:=qq (((HB2.out.old (box1 _ (.cells #[.int .i64 Q.x,.int .i64 Q.y] 26))).old (box1 _ (.cells #[.int .i64 R.x,.int .i64 R.y] 26))).old hb)
    have HX3:=qq (((HX2.out.old (box1 _ (.cells #[.int .i64 Q.x,.int .i64 Q.y] 26))).old (box1 _ (.cells #[.int .i64 R.x,.int .i64 R.y] 26))).old hb)
    have HV3:=qq (((HV2.out.old (box1 _ (.cells #[.int .i64 Q.x,.int .i64 Q.y] 26))).old (box1 _ (.cells #[.int .i64 R.x,.int .i64 R.y] 26))).old hb)
    have HQ3:Hid (Box w0 b E ov (w2.heap.size) [.int .i64 Q.x,.int .i64 Q.y] w3):=by
     have h:=Box.makeM HD2.out (by omega) 26 [.int .i64 Q.x,.int .i64 Q.y]
     exact ((h.old (box1 _ (.cells #[.int .i64 R.x,.int .i64 R.y] 26)))).old hb
    have HR3:Hid (Box w0 b E ov (w2.heap.size+1) [.int .i64 R.x,.int .i64 R.y] w3):=by
     have h:=Box.makeM (HD2.out.old (box1 _ (.cells #[.int .i64 Q.x,.int .i64 Q.y] 26))) (by omega) 26 [.int .i64 R.x,.int .i64 R.y]
     simp only [World.size_alloc] at h
     exact (h).old hb
    clear hb HD2 HM2 HA2 HB2 HX2 HV2  
    have qR0:=HR3.out.blk.c 0 _ rfl
    have qR1:=HR3.out.blk.c 1 _ rfl
    go_wp2_with fail
    refine (HRR.out _).mono ?_
    rintro e w4 ⟨rfl,hb⟩
    have HD4:=qq (HD3.out.old hb)
    have HM4:=qq (HM3.out.old hb)
    have HA4:=qq (HA3.out.old hb)
    have HB4:=qq (HB3.out.old hb)
    have HX4:=qq (HX3.out.old hb)
    have HV4:=qq (HV3.out.old hb)
    have HQ4:=qq (HQ3.out.old hb)
    have HR4:=qq (HR3.out.old hb)
    clear hb HD3 HM3 HA3 HB3 HX3 HV3 HQ3 HR3 qR0 qR1 
    have qQ0:=HQ4.out.blk.c 0 _ rfl
    have qQ1:=HQ4.out.blk.c 1 _ rfl
    have qR0:=HR4.out.blk.c 0 _ rfl
    have qR1:=HR4.out.blk.c 1 _ rfl
    have qV0:=HV4.out.blk.c 0 _ rfl
    have qV1:=HV4.out.blk.c 1 _ rfl
    have qV2:=HV4.out.blk.c 2 _ rfl
    have cV3:=HV4.out.blk.c 3 _ rfl;have zV3:=HV4.out.blk.f 3 _ rfl
    have cV4:=HV4.out.blk.c 4 _ rfl;have zV4:=HV4.out.blk.f 4 _ rfl
    go_wp2_with fail
    refine mput2 (P:=fun W=>Calls _ _ _ (W) _) HD4.out HM4.out HV4.out HX4.out (by omega) (by omega) _ _ ?_
    clear HD4 HM4 HA4 HB4 HX4 HV4 HQ4 HR4 qQ0 qQ1 qR0 qR1 qV0 qV1 qV2 cV3 zV3 cV4 zV4
    intro w5 hd2 hm2 hv2 hx2
    have HD5:=qq hd2;have HM5:=qq hm2;have HV5:=qq hv2;have HX5:=qq hx2
    clear hd2 hm2 hv2 hx2
    refine (HRI.out (pv Q.x Q.y) _ HD5.out).mono ?_
    rintro e w6 ⟨u,x,S1,n1,ov1,rfl,hans,hz,hd3,hm3⟩
    have HA:=qq hans;have HZ:=qq hz;have HD6:=qq hd3;have HM6:=qq (HM5.out.trans hm3);have HX6:=qq (HX5.out.mv hm3)
    clear hans hz hd3 hm3 HD5 HM5 HV5 HX5  
    obtain ⟨cX0,cX1,cX2,cX3,cX4,zX0,zX1,zX2,zX3,zX4,hltX⟩:=HX6.out.five
    go_wp2_with fail
    refine mend (P:=bodyPost _ _ _ _ _) HD6.out HM6.out HX6.out (by omega) _ _ _ _ _ ?_
    clear HD6 HM6 HX6 cX0 cX1 cX2 cX3 cX4 zX0 zX1 zX2 zX3 zX4
    intro w9 hd9 hm9 c0 c1 c2 c3 c4
    refine bodyPost_ret (v:=.agg u) (by simp [results,Tryz.results151,go_sem,c0,c1,c2,c3,c4]) rfl ⟨u,x,S1,n1,ov1,rfl,HA.out,HZ.out,hd9,hm9⟩
theorem mspots_mod {w0:World} {A:Option Addr} {c E b n:Nat} {l:List No} {S:St} {ov:Value} {w:World} (x2 y2 u2 v2:Int) (ha:rb ⟨x2,y2⟩=true) (hb:rb ⟨u2,v2⟩=true) (hd:Mac w0 A c E b l S n 0 ov w) (hl:0<l.length):Calls Tryz.prog 151 #[.pointer (some ⟨b,0,none⟩),.string ⟨#[109,111,100]⟩,.agg #[.int .i64 x2,.int .i64 y2],.agg #[.int .i64 u2,.int .i64 v2]] w (Rn (lift (spots 6 ⟨x2,y2⟩ ⟨u2,v2⟩) S n) w0 A c E b l ov w):=by
 have HRI:=qq (fun (v:Va) w1 (h:Mac w0 A c E b l S n 0 ov w1)=>mright_any v h hl)
 have HF:=qq (fun (x:Int) (hx:x ≠ 0) w1 (h:Mac w0 A c E b l S n 0 ov w1)=>mfail_at x hx h)
 by_cases h0:(⟨u2,v2⟩:Pt)=Pt.zero
 · have hu0:u2=0:=congrArg Pt.x h0;have hv0:v2=0:=congrArg Pt.y h0
   subst hu0;subst hv0
   have HXE:Hid (lift (spots 6 ⟨x2,y2⟩ ⟨0,0⟩) S n=.er 16):=by show lift (spots 6 ⟨x2,y2⟩ Pt.zero) S n=_;rw [spots_zero (by decide)];rfl
   clear ha hb h0
   obtain ⟨w1,hw1,hd1,hm1,hbel,hsz,hbA,hbB,hbX,hbV⟩:=mbox4 hd hl 26 [.int .i64 x2,.int .i64 y2] 26 [.int .i64 0,.int .i64 0] 28 zz 28 [.int .i64 2,.int .i64 0,.string ⟨#[]⟩,.int .i64 0,.int .i64 0]
   have HD1:=qq hd1;have HM1:=qq hm1;have HW1:=qq hw1;have HA1:=qq hbA;have HB1:=qq hbB;have HX1:=qq hbX;have HV1:=qq hbV
   clear hd hd1 hm1 hbel hsz hw1 hbA hbB hbX hbV
   go_enter Tryz.func151,Tryz.ntmps151
   go_wp2_with fail
   rw [HW1.out]
   refine (HF.out 16 (by decide) _ HD1.out).mono ?_
   rintro e w2 ⟨rfl,hd3,hm3⟩
   have HD2:=qq hd3;have HM2:=qq (HM1.out.trans hm3);have HX2:=qq (HX1.out.mv hm3)
   clear hd3 hm3 HD1 HM1 HA1 HB1 HX1 HV1  
   obtain ⟨cX0,cX1,cX2,cX3,cX4,zX0,zX1,zX2,zX3,zX4,hltX⟩:=HX2.out.five
   go_wp2_with fail
   refine mend (P:=bodyPost _ _ _ _ _) HD2.out HM2.out HX2.out (by omega) _ _ _ _ _ ?_
   clear HD2 HM2 HX2 cX0 cX1 cX2 cX3 cX4 zX0 zX1 zX2 zX3 zX4
   intro w9 hd9 hm9 c0 c1 c2 c3 c4
   refine bodyPost_ret (v:=.agg zz) (by simp [results,Tryz.results151,go_sem,c0,c1,c2,c3,c4]) rfl ⟨vz,16,S,n,ov,rfl,by rw [HXE.out];exact Ans.er rfl rfl (by decide),fun _=>rfl,hd9,hm9⟩
 · have hq:=Pt.quo_right ha h0;have hr:=Pt.rest_right (a:=⟨x2,y2⟩) hb h0
   have HDV:=qq (rdiv_any ha hb h0)
   have hE:∀ W,(binOp .eql 26 (.agg #[.int .i64 u2,.int .i64 v2]) (.agg #[.int .i64 0,.int .i64 0])).run Tryz.prog W=.ok (.bool false) W:=fun W=>by
    rw [spot_eql];congr 2
    rw [Bool.and_eq_false_iff,beq_eq_false_iff_ne,beq_eq_false_iff_ne]
    exact Decidable.not_and_iff_or_not.1 fun g=>h0 (by rw [g.1,g.2];rfl)
   have HXE:Hid (lift (spots 6 ⟨x2,y2⟩ ⟨u2,v2⟩) S n=.ok (pv (Pt.rest ⟨x2,y2⟩ ⟨u2,v2⟩).x (Pt.rest ⟨x2,y2⟩ ⟨u2,v2⟩).y) S n):=by show _=_;unfold spots;rw [if_neg (by decide),if_neg (by decide),if_neg (by decide),if_neg h0,if_neg (by decide)];rfl
   have HXC:Hid (lift (chk (pv (Pt.rest ⟨x2,y2⟩ ⟨u2,v2⟩).x (Pt.rest ⟨x2,y2⟩ ⟨u2,v2⟩).y)) S n=lift (spots 6 ⟨x2,y2⟩ ⟨u2,v2⟩) S n):=by show _=_;rw [HXE.out];unfold chk;rw [if_pos (rt_pv (x:=(Pt.rest ⟨x2,y2⟩ ⟨u2,v2⟩).x) (y:=(Pt.rest ⟨x2,y2⟩ ⟨u2,v2⟩).y) hr)];rfl
   obtain ⟨⟨hx1,hx2⟩,hy1,hy2⟩:=rb_xy ha;obtain ⟨⟨hu1,hu2⟩,hv1,hv2⟩:=rb_xy hb
   rw [← HXC.out]
   clear HXE HXC h0 ha hb
   generalize hQ:Pt.quo ⟨x2,y2⟩ ⟨u2,v2⟩=Q at *
   generalize hR:Pt.rest ⟨x2,y2⟩ ⟨u2,v2⟩=R at *
   clear hQ hR
   have HRQ:=qq (rspot_any Q.x Q.y);have HRR:=qq (rspot_any R.x R.y)
   rw [show (⟨Q.x,Q.y⟩:Pt)=Q from rfl,hq] at HRQ
   rw [show (⟨R.x,R.y⟩:Pt)=R from rfl,hr] at HRR
   clear hq hr
   obtain ⟨w1,hw1,hd1,hm1,hbel,hsz,hbA,hbB,hbX,hbV⟩:=mbox4 hd hl 26 [.int .i64 x2,.int .i64 y2] 26 [.int .i64 u2,.int .i64 v2] 28 zz 28 [.int .i64 2,.int .i64 0,.string ⟨#[]⟩,.int .i64 0,.int .i64 0]
   have HD1:=qq hd1;have HM1:=qq hm1;have HW1:=qq hw1;have HA1:=qq hbA;have HB1:=qq hbB;have HX1:=qq hbX;have HV1:=qq hbV
   clear hd hd1 hm1 hbel hsz hw1 hbA hbB hbX hbV
   go_enter Tryz.func151,Tryz.ntmps151
   go_upto_region 3 with fail
   rw [HW1.out]
   have qA0:=HA1.out.blk.c 0 _ rfl
   have qA1:=HA1.out.blk.c 1 _ rfl
   have qB0:=HB1.out.blk.c 0 _ rfl
   have qB1:=HB1.out.blk.c 1 _ rfl
   go_wp2_with fail
   all_goals
    refine (HDV.out _).mono ?_
    rintro e w2 ⟨rfl,hb⟩
    have HD2:=qq (HD1.out.old hb)
    have HM2:=qq (HM1.out.old hb)
    have HA2:=qq (HA1.out.old hb)
    have HB2:=qq (HB1.out.old hb)
    have HX2:=qq (HX1.out.old hb)
    have HV2:=qq (HV1.out.old hb)
    clear hb HD1 HM1 HA1 HB1 HX1 HV1 qA0 qA1 qB0 qB1 
    have hltV2:=HV2.out.blk.lt
    go_wp2_with fail
    refine (HRQ.out _).mono ?_
    rintro e w3 ⟨rfl,hb⟩
    have HD3:=qq (((HD2.out.old (box1 _ (.cells #[.int .i64 Q.x,.int .i64 Q.y] 26))).old (box1 _ (.cells #[.int .i64 R.x,.int .i64 R.y] 26))).old hb)
    have HM3:=qq (((HM2.out.old (box1 _ (.cells #[.int .i64 Q.x,.int .i64 Q.y] 26))).old (box1 _ (.cells #[.int .i64 R.x,.int .i64 R.y] 26))).old hb)
    have HA3:=qq (((HA2.out.old (box1 _ (.cells #[.int .i64 Q.x,.int .i64 Q.y] 26))).old (box1 _ (.cells #[.int .i64 R.x,.int .i64 R.y] 26))).old hb)
    have HB3:=qq (((HB2.out.old (box1 _ (.cells #[.int .i64 Q.x,.int .i64 Q.y] 26))).old (box1 _ (.cells #[.int .i64 R.x,.int .i64 R.y] 26))).old hb)
    have HX3:=qq (((HX2.out.old (box1 _ (.cells #[.int .i64 Q.x,.int .i64 Q.y] 26))).old (box1 _ (.cells #[.int .i64 R.x,.int .i64 R.y] 26))).old hb)
    have HV3:=qq (((HV2.out.old (box1 _ (.cells #[.int .i64 Q.x,.int .i64 Q.y] 26))).old (box1 _ (.cells #[.int .i64 R.x,.int .i64 R.y] 26))).old hb)
    have HQ3:Hid (Box w0 b E ov (w2.heap.size) [.int .i64 Q.x,.int .i64 Q.y] w3):=by
     have h:=Box.makeM HD2.out (by omega) 26 [.int .i64 Q.x,.int .i64 Q.y]
     exact ((h.old (box1 _ (.cells #[.int .i64 R.x,.int .i64 R.y] 26)))).old hb
    have HR3:Hid (Box w0 b E ov (w2.heap.size+1) [.int .i64 R.x,.int .i64 R.y] w3):=by
     have h:=Box.makeM (HD2.out.old (box1 _ (.cells #[.int .i64 Q.x,.int .i64 Q.y] 26))) (by omega) 26 [.int .i64 R.x,.int .i64 R.y]
     simp only [World.size_alloc] at h
     exact (h).old hb
    clear hb HD2 HM2 HA2 HB2 HX2 HV2  
    have qR0:=HR3.out.blk.c 0 _ rfl
    have qR1:=HR3.out.blk.c 1 _ rfl
    go_wp2_with fail
    refine (HRR.out _).mono ?_
    rintro e w4 ⟨rfl,hb⟩
    have HD4:=qq (HD3.out.old hb)
    have HM4:=qq (HM3.out.old hb)
    have HA4:=qq (HA3.out.old hb)
    have HB4:=qq (HB3.out.old hb)
    have HX4:=qq (HX3.out.old hb)
    have HV4:=qq (HV3.out.old hb)
    have HQ4:=qq (HQ3.out.old hb)
    have HR4:=qq (HR3.out.old hb)
    clear hb HD3 HM3 HA3 HB3 HX3 HV3 HQ3 HR3 qR0 qR1 
    have qQ0:=HQ4.out.blk.c 0 _ rfl
    have qQ1:=HQ4.out.blk.c 1 _ rfl
    have qR0:=HR4.out.blk.c 0 _ rfl
    have qR1:=HR4.out.blk.c 1 _ rfl
    have qV0:=HV4.out.blk.c 0 _ rfl
    have qV1:=HV4.out.blk.c 1 _ rfl
    have qV2:=HV4.out.blk.c 2 _ rfl
    have cV3:=HV4.out.blk.c 3 _ rfl;have zV3:=HV4.out.blk.f 3 _ rfl
    have cV4:=HV4.out.blk.c 4 _ rfl;have zV4:=HV4.out.blk.f 4 _ rfl
    go_upto_region 9 with fail
    refine mput3 (P:=fun W=>Code.wp _ _ _ _ (W)) HD4.out HM4.out HV4.out HX4.out HR4.out (by omega) (by omega) (by omega) _ _ ?_
    clear HD4 HM4 HA4 HB4 HX4 HV4 HQ4 HR4 qQ0 qQ1 qR0 qR1 qV0 qV1 qV2 cV3 zV3 cV4 zV4
    intro w5 hd2 hm2 hv2 hx2 hr2
    have HD5:=qq hd2;have HM5:=qq hm2;have HV5:=qq hv2;have HX5:=qq hx2;have HR5:=qq hr2
    clear hd2 hm2 hv2 hx2 hr2
    have qR0:=HR5.out.blk.c 0 _ rfl
    have qR1:=HR5.out.blk.c 1 _ rfl
    have qV0:=HV5.out.blk.c 0 _ rfl
    have qV1:=HV5.out.blk.c 1 _ rfl
    have qV2:=HV5.out.blk.c 2 _ rfl
    have cV3:=HV5.out.blk.c 3 _ rfl;have zV3:=HV5.out.blk.f 3 _ rfl
    have cV4:=HV5.out.blk.c 4 _ rfl;have zV4:=HV5.out.blk.f 4 _ rfl
    go_wp2_with fail
    refine mput2 (P:=fun W=>Calls _ _ _ (W) _) HD5.out HM5.out HV5.out HX5.out (by omega) (by omega) _ _ ?_
    clear HD5 HM5 HV5 HX5 HR5 qR0 qR1 qV0 qV1 qV2 cV3 zV3 cV4 zV4
    intro w6 hd2 hm2 hv2 hx2
    have HD6:=qq hd2;have HM6:=qq hm2;have HV6:=qq hv2;have HX6:=qq hx2
    clear hd2 hm2 hv2 hx2
    refine (HRI.out (pv R.x R.y) _ HD6.out).mono ?_
    rintro e w7 ⟨u,x,S1,n1,ov1,rfl,hans,hz,hd3,hm3⟩
    have HA:=qq hans;have HZ:=qq hz;have HD7:=qq hd3;have HM7:=qq (HM6.out.trans hm3);have HX7:=qq (HX6.out.mv hm3)
    clear hans hz hd3 hm3 HD6 HM6 HV6 HX6  
    obtain ⟨cX0,cX1,cX2,cX3,cX4,zX0,zX1,zX2,zX3,zX4,hltX⟩:=HX7.out.five
    go_wp2_with fail
    refine mend (P:=bodyPost _ _ _ _ _) HD7.out HM7.out HX7.out (by omega) _ _ _ _ _ ?_
    clear HD7 HM7 HX7 cX0 cX1 cX2 cX3 cX4 zX0 zX1 zX2 zX3 zX4
    intro w9 hd9 hm9 c0 c1 c2 c3 c4
    refine bodyPost_ret (v:=.agg u) (by simp [results,Tryz.results151,go_sem,c0,c1,c2,c3,c4]) rfl ⟨u,x,S1,n1,ov1,rfl,HA.out,HZ.out,hd9,hm9⟩
end Go.Proofs.YtgakcpcpfkoaiaaGreatDoor.Ev
