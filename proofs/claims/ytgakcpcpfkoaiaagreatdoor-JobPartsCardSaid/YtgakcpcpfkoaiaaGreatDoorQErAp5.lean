/-
  A text of this claim: ErAp5.
-/
import Derived.Test.YtgakcpcpfkoaiaaGreatDoorQ1
import Derived.Test.YtgakcpcpfkoaiaaGreatDoorQ7
import Derived.Test.YtgakcpcpfkoaiaaGreatDoorQEvDeed9
import Derived.Deep.Cut
set_option maxHeartbeats 4000000
set_option maxRecDepth 100000
namespace Go.Proofs.YtgakcpcpfkoaiaaGreatDoor.Ev
open Go.ChangeShapes Go.WideShapes Go.ChangeAt Go.RowKit Ov Va Ga Ex
theorem map_emit {w0:World} {A:Option Addr} {c E b n:Nat} {l:List No} {S:St} {ov:Value} {w:World} {L cap:Nat} (p q:Va) (hp:rt p=true) (_hq:rt q=true) (hgo:S.out.length≤64) (hv:Vs w L [p,q]) (hd:Mac w0 A c E b l S n 0 ov w) (hl:0<l.length):Calls Tryz.prog 114 #[.pointer (some ⟨b,0,none⟩),.string ⟨#[101,109,105,116]⟩,.slice (some ⟨L,0,none⟩) 2 cap] w (Rn (ap 26 [p,q] S n) w0 A c E b l ov w):=by
 have HF:=qq (fun (x:Int) (hx:x ≠ 0) w1 (h:Mac w0 A c E b l S n 0 ov w1)=>mfail_at x hx h)
 have hl0:Hid (0<l.length):=hl
 have hp1:=(rt_all hp).2.1
 have hs0:=tx_size p.s
 clear hp
 obtain ⟨Bp,cp,hov⟩:=own_slice hd.out
 have e19:w.cell? ⟨b,19,none⟩=some ov:=hd.blk.c 19 _ rfl
 rw [hov] at e19
 have HOV:=qq hov;clear hov
 have hlb:=hd.lt
 by_cases hk:p.k=1
 · have hk1:(p.k != 1)=false:=by simpa using hk
   have HAP:Hid (ap 26 [p,q] S n=af 26 [p,q] S n):=ap_af (o:=26) (l:=[p,q]) (by show fits [1,-1] [p,q]=true;simp [fits,hk]) S n
   clear hk
   by_cases hbig:64<p.s.length
   · have HB:Hid (ap 26 [p,q] S n=.er 3):=by show _=_;rw [HAP.out];exact emit_big (l:=[p,q]) hbig S n
     obtain ⟨l0,l1,l2,l3,l4,hLlt⟩:=hv.p1
     obtain ⟨l5,l6,l7,l8,l9⟩:=hv.p2
     obtain ⟨w1,hw1,hd1,hm1,hbel,hsz,hbX,hbA,hbB⟩:=mbox3 hd hl 28 zz 28 p 28 q
     have HD1:=qq hd1;have HM1:=qq hm1;have HW1:=qq hw1;have HX1:=qq hbX;have HA1:=qq hbA;have HB1:=qq hbB
     have HL1:=qq (hv.next hbel);clear hv
     clear hd hd1 hm1 hbel hsz hw1 hbX hbA hbB
     go_enter Tryz.func114,Tryz.ntmps114
     go_wp2_with fail
     rw [HW1.out]
     clear l0 l1 l2 l3 l4 l5 l6 l7 l8 l9 hLlt e19 hlb
     refine (HF.out 3 (by decide) _ HD1.out).mono ?_
     rintro e w2 ⟨rfl,hd3,hm3⟩
     have HD2:=qq hd3;have HM2:=qq (HM1.out.trans hm3);have HX2:=qq (HX1.out.mv hm3)
     clear hd3 hm3 HD1 HM1 HX1 HA1 HB1  HL1
     obtain ⟨cX0,cX1,cX2,cX3,cX4,zX0,zX1,zX2,zX3,zX4,hltX⟩:=HX2.out.five
     go_wp2_with fail
     refine mend (P:=bodyPost _ _ _ _ _) HD2.out HM2.out HX2.out (by omega) _ _ _ _ _ ?_
     clear HD2 HM2 HX2 cX0 cX1 cX2 cX3 cX4 zX0 zX1 zX2 zX3 zX4
     intro w9 hd9 hm9 c0 c1 c2 c3 c4
     refine bodyPost_ret (v:=.agg zz) (by simp [results,Tryz.results114,go_sem,c0,c1,c2,c3,c4]) rfl ⟨vz,3,S,n,ov,rfl,by rw [HB.out];exact Ans.er rfl rfl (by decide),fun _=>rfl,hd9,hm9⟩
   · skip
     by_cases hm:64≤S.out.length
     · have HB:Hid (ap 26 [p,q] S n=.er 22):=by show _=_;rw [HAP.out];exact emit_many (l:=[p,q]) hbig hm n
       obtain ⟨l0,l1,l2,l3,l4,hLlt⟩:=hv.p1
       obtain ⟨l5,l6,l7,l8,l9⟩:=hv.p2
       obtain ⟨w1,hw1,hd1,hm1,hbel,hsz,hbX,hbA,hbB⟩:=mbox3 hd hl 28 zz 28 p 28 q
       have HD1:=qq hd1;have HM1:=qq hm1;have HW1:=qq hw1;have HX1:=qq hbX;have HA1:=qq hbA;have HB1:=qq hbB
       have HL1:=qq (hv.next hbel);clear hv
       clear hd hd1 hm1 hbel hsz hw1 hbX hbA hbB
       go_enter Tryz.func114,Tryz.ntmps114
       go_upto_region 3 with fail
       rw [HW1.out]
       clear l0 l1 l2 l3 l4 l5 l6 l7 l8 l9 hLlt e19 hlb
       have e191:w1.cell? ⟨b,19,none⟩=some (.slice Bp S.out.length cp):=by rw [← HOV.out];exact HD1.out.blk.c 19 _ rfl
       have hlb1:=HD1.out.lt
       clear HL1
       have qA0:=HA1.out.blk.c 0 _ rfl
       have qA2:=HA1.out.blk.c 2 _ rfl
       go_wp2_with fail
       refine (HF.out 22 (by decide) _ HD1.out).mono ?_
       rintro e w2 ⟨rfl,hd3,hm3⟩
       have HD2:=qq hd3;have HM2:=qq (HM1.out.trans hm3);have HX2:=qq (HX1.out.mv hm3)
       clear hd3 hm3 HD1 HM1 HX1 HA1 HB1 qA0 qA2 e191 hlb1
       obtain ⟨cX0,cX1,cX2,cX3,cX4,zX0,zX1,zX2,zX3,zX4,hltX⟩:=HX2.out.five
       go_wp2_with fail
       refine mend (P:=bodyPost _ _ _ _ _) HD2.out HM2.out HX2.out (by omega) _ _ _ _ _ ?_
       clear HD2 HM2 HX2 cX0 cX1 cX2 cX3 cX4 zX0 zX1 zX2 zX3 zX4
       intro w9 hd9 hm9 c0 c1 c2 c3 c4
       refine bodyPost_ret (v:=.agg zz) (by simp [results,Tryz.results114,go_sem,c0,c1,c2,c3,c4]) rfl ⟨vz,22,S,n,ov,rfl,by rw [HB.out];exact Ans.er rfl rfl (by decide),fun _=>rfl,hd9,hm9⟩
     · have HB:Hid (ap 26 [p,q] S n=.ok q { S with out:=S.out++[(p.s,q)] } n):=by show _=_;rw [HAP.out];exact emit_ok (l:=[p,q]) hbig hm n
       obtain ⟨l0,l1,l2,l3,l4,hLlt⟩:=hv.p1
       obtain ⟨l5,l6,l7,l8,l9⟩:=hv.p2
       obtain ⟨w1,hw1,hd1,hm1,hbel,hsz,hbX,hbA,hbB⟩:=mbox3 hd hl 28 zz 28 p 28 q
       have HD1:=qq hd1;have HM1:=qq hm1;have HW1:=qq hw1;have HX1:=qq hbX;have HA1:=qq hbA;have HB1:=qq hbB
       have HL1:=qq (hv.next hbel);clear hv
       clear hd hd1 hm1 hbel hsz hw1 hbX hbA hbB
       go_enter Tryz.func114,Tryz.ntmps114
       go_upto_region 3 with fail
       rw [HW1.out]
       clear l0 l1 l2 l3 l4 l5 l6 l7 l8 l9 hLlt e19 hlb
       have e191:w1.cell? ⟨b,19,none⟩=some (.slice Bp S.out.length cp):=by rw [← HOV.out];exact HD1.out.blk.c 19 _ rfl
       have hlb1:=HD1.out.lt
       clear HL1
       have qA0:=HA1.out.blk.c 0 _ rfl
       have qA2:=HA1.out.blk.c 2 _ rfl
       have qB0:=HB1.out.blk.c 0 _ rfl
       have qB1:=HB1.out.blk.c 1 _ rfl
       have qB2:=HB1.out.blk.c 2 _ rfl
       have qB3:=HB1.out.blk.c 3 _ rfl
       have qB4:=HB1.out.blk.c 4 _ rfl
       obtain ⟨i0,hi0,hi1,hi2,hi3⟩:=info_parts infoP
       have HI0:=qq hi0;have HI1:=qq hi1;have HI2:=qq hi2;have HI3:=qq hi3
       clear hi0 hi1 hi2 hi3
       go_wp2_with fail
       go_region_law (first
        | (refine step_append_lies _ rfl (.tmp 209) (.tmp 214) 58 rfl w0.heap.size 152 i0 (.agg (pcl ([],vz)).toArray) 6 64 Tryz.underlying58 HI0.out HI1.out HI2.out HI3.out rfl (by decide) (.slice Bp S.out.length cp) S.out.length (pcells S.out) (by simp [Act.eval]) (by rw [← HOV.out];exact (HD1.out.old (box1 w1 _)).out) ⟨w1.heap.size,0,none⟩ 1 1 (pcl (p.s,q)) (by simp [Act.eval]) rfl (by exact pair_at _ _ _ _ rfl) (pcl_one _) (by decide) (by unfold maxLen;omega) (by omega) (by exact (HD1.out.old (box1 w1 _)).fro.size) (w1.heap.size+1) (by simp) ?_
           intro g cap2 w6 hown' hgrow hgg hgl
           have HGG:=qq ((HD1.out.old (box1 w1 (.cells #[.string (tx p.s),.int .i64 q.k,.int .i64 q.n,.string (tx q.s),.int .i64 q.x,.int .i64 q.y] 152))).drew.grown hl0.out hown' (by rw [HOV.out];exact hgrow) (by rw [HOV.out,show (w1.alloc (.cells #[.string (tx p.s),.int .i64 q.k,.int .i64 q.n,.string (tx q.s),.int .i64 q.x,.int .i64 q.y] 152)).drew.heap.size=w1.heap.size+1 from World.size_alloc _ _];exact hgg))
           obtain ⟨k19,z19⟩:=(HD1.out.old (box1 w1 (.cells #[.string (tx p.s),.int .i64 q.k,.int .i64 q.n,.string (tx q.s),.int .i64 q.x,.int .i64 q.y] 152))).drew.cell_far (by rw [HOV.out];exact hgrow)
           clear hown' hgrow hgg hgl))
       all_goals
        obtain ⟨hd7,hm7⟩:=HGG.out
        have HM7:=qq (((HM1.out.old (box1 w1 (.cells #[.string (tx p.s),.int .i64 q.k,.int .i64 q.n,.string (tx q.s),.int .i64 q.x,.int .i64 q.y] 152))).old (Below.refl _ _).drew).trans hm7);have HX7:=qq (((HX1.out.old (box1 w1 (.cells #[.string (tx p.s),.int .i64 q.k,.int .i64 q.n,.string (tx q.s),.int .i64 q.x,.int .i64 q.y] 152))).old (Below.refl _ _).drew).mv hm7);have HB7:=qq (((HB1.out.old (box1 w1 (.cells #[.string (tx p.s),.int .i64 q.k,.int .i64 q.n,.string (tx q.s),.int .i64 q.x,.int .i64 q.y] 152))).old (Below.refl _ _).drew).mv hm7);have HD7:=qq hd7
        clear hd7 hm7 HGG HD1 HM1 HX1 HA1 HB1 k19 z19 HI0 HI1 HI2 HI3 e191 hlb1 qA0 qA2 qB0 qB1 qB2 qB3 qB4
        generalize w6.setCell ⟨b,19,none⟩ (.slice (some ⟨g,0,none⟩) (S.out.length+1) cap2)=w7 at *
        obtain ⟨qB0,qB1,qB2,qB3,qB4⟩:=ck5 HB7.out.blk
        obtain ⟨cX0,cX1,cX2,cX3,cX4,zX0,zX1,zX2,zX3,zX4,hltX⟩:=HX7.out.five
        go_wp2_with fail
        refine mend (P:=bodyPost _ _ _ _ _) HD7.out HM7.out HX7.out (by omega) _ _ _ _ _ ?_
        clear HD7 HM7 HX7 HB7 qB0 qB1 qB2 qB3 qB4 cX0 cX1 cX2 cX3 cX4 zX0 zX1 zX2 zX3 zX4
        intro w9 hd9 hm9 c0 c1 c2 c3 c4
        refine bodyPost_ret (v:=.agg q) (by simp [results,Tryz.results114,go_sem,c0,c1,c2,c3,c4]) rfl ⟨q,0,{ S with out:=S.out++[(p.s,q)] },n,_,rfl,Ans.ok HB.out rfl,fun h=>absurd rfl h,hd9,hm9⟩
 · have hk1:(p.k != 1)=true:=by simpa using hk
   have HB:=qq (ap_no (o:=26) (l:=[p,q]) (by show fits [1,-1] [p,q]=false;simp [fits,hk]) S n)
   clear hk
   obtain ⟨l0,l1,l2,l3,l4,hLlt⟩:=hv.p1
   obtain ⟨l5,l6,l7,l8,l9⟩:=hv.p2
   obtain ⟨w1,hw1,hd1,hm1,hbel,hsz,hbX,hbA,hbB⟩:=mbox3 hd hl 28 zz 28 p 28 q
   have HD1:=qq hd1;have HM1:=qq hm1;have HW1:=qq hw1;have HX1:=qq hbX;have HA1:=qq hbA;have HB1:=qq hbB
   have HL1:=qq (hv.next hbel);clear hv
   clear hd hd1 hm1 hbel hsz hw1 hbX hbA hbB
   go_enter Tryz.func114,Tryz.ntmps114
   go_wp2_with fail
   rw [HW1.out]
   clear l0 l1 l2 l3 l4 l5 l6 l7 l8 l9 hLlt e19 hlb
   refine (HF.out 13 (by decide) _ HD1.out).mono ?_
   rintro e w2 ⟨rfl,hd3,hm3⟩
   have HD2:=qq hd3;have HM2:=qq (HM1.out.trans hm3);have HX2:=qq (HX1.out.mv hm3)
   clear hd3 hm3 HD1 HM1 HX1 HA1 HB1  HL1
   obtain ⟨cX0,cX1,cX2,cX3,cX4,zX0,zX1,zX2,zX3,zX4,hltX⟩:=HX2.out.five
   go_wp2_with fail
   refine mend (P:=bodyPost _ _ _ _ _) HD2.out HM2.out HX2.out (by omega) _ _ _ _ _ ?_
   clear HD2 HM2 HX2 cX0 cX1 cX2 cX3 cX4 zX0 zX1 zX2 zX3 zX4
   intro w9 hd9 hm9 c0 c1 c2 c3 c4
   refine bodyPost_ret (v:=.agg zz) (by simp [results,Tryz.results114,go_sem,c0,c1,c2,c3,c4]) rfl ⟨vz,13,S,n,ov,rfl,by rw [HB.out];exact Ans.er rfl rfl (by decide),fun _=>rfl,hd9,hm9⟩
end Go.Proofs.YtgakcpcpfkoaiaaGreatDoor.Ev
