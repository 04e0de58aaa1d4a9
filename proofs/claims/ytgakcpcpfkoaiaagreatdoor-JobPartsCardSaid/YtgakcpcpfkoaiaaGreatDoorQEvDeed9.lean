/-
  A text of this claim: EvDeed9.
-/
import Derived.Test.YtgakcpcpfkoaiaaGreatDoorQ1
import Derived.Test.YtgakcpcpfkoaiaaGreatDoorQ7
import Derived.Test.YtgakcpcpfkoaiaaGreatDoorQ6
import Derived.Test.YtgakcpcpfkoaiaaGreatDoorQ3
import Derived.Test.YtgakcpcpfkoaiaaGreatDoorQOvAlloc
set_option maxHeartbeats 16000000
set_option maxRecDepth 100000
namespace Go.Proofs.YtgakcpcpfkoaiaaGreatDoor.Ev
open Go.ChangeShapes Go.WideShapes Go.ChangeAt Go.RowKit Ov Va Ga Ex
theorem emit_big {l:List Va} (h:64<(at0 l).s.length) (S:St) (n:Nat):af 26 l S n=.er 3:=by
 show (if 64<(at0 l).s.length then fail 3 else emitM (at0 l).s (at1 l)) S n=_
 rw [if_pos h];rfl
theorem emit_many {l:List Va} (h:¬ 64<(at0 l).s.length) {S:St} (hs:64≤S.out.length) (n:Nat):af 26 l S n=.er 22:=by
 show (if 64<(at0 l).s.length then fail 3 else emitM (at0 l).s (at1 l)) S n=_
 rw [if_neg h];unfold emitM;rw [if_pos hs]
theorem emit_ok {l:List Va} (h:¬ 64<(at0 l).s.length) {S:St} (hs:¬ 64≤S.out.length) (n:Nat):af 26 l S n=.ok (at1 l) { S with out:=S.out++[((at0 l).s,at1 l)] } n:=by
 show (if 64<(at0 l).s.length then fail 3 else emitM (at0 l).s (at1 l)) S n=_
 rw [if_neg h];unfold emitM;rw [if_neg hs]
theorem deed_emit {d:Nat} (HD:DoC (ev d) d):DeedC d 26 106:=by
 intro w0 A c E b l S n ov w k r hcx hd hg hkl ho hrn hx hd24
 have HBD:Hid (body (ev d) (nd l k) (l.drop (k+1)) S n=bnd (prt (ev d) [1,-1] (l.drop (k+1))) (af 26) S n):=by show _=_;exact congrFun (congrFun (body_prt ho (by decide) (by decide) (by decide) (by decide) (by decide) (by decide)) S) n
 have HP:=qq (pre_any HD [1,-1] (by decide) (by decide) (by decide) hcx hd hg hkl hx (by decide) hd24)
 clear hcx hd hg ho hrn hx hd24 HD
 go_enter Tryz.func106,Tryz.ntmps106
 go_wp2_with fail
 refine (HP.out).mono ?_
 rintro e w3 ⟨p0,p1,p2,x,S1,n1,ov1,rfl,ha,r0,r1,r2,hgd,hd3,hm3,hx3⟩
 have HA:=qq ha;have R0:=qq r0;have R1:=qq r1;have R2:=qq r2;have HG:=qq hgd;have HD3:=qq hd3;have HM3:=qq hm3;have HX3:=qq hx3
 have hlZ:=hx3.blk.lt
 clear ha r0 r1 r2 hgd hd3 hm3 hx3 HP
 rcases HA.out.cases with ⟨hx0,hX⟩ | ⟨rfl,a,ha,hX⟩
 · have HX0:=qq hx0;have HXX:=qq hX
   have hx1:(x == 0)=false:=by simpa using hx0
   have hx2:(x != 0)=true:=by simpa using hx0
   clear hx0 hX HA
   obtain ⟨cX0,cX1,cX2,cX3,cX4,zX0,zX1,zX2,zX3,zX4,hltX⟩:=HX3.out.fiv
   go_wp2_with fail
   refine denda (P:=bodyPost _ _ _ _ _) HD3.out HM3.out HX3.out (by omega) _ _ _ _ _ ?_
   clear cX0 cX1 cX2 cX3 cX4 zX0 zX1 zX2 zX3 zX4 HD3 HM3 HX3 
   intro w9 hd9 hm9 cX0 cX1 cX2 cX3 cX4
   refine bodyPost_ret (v:=.tuple #[.agg zz,.int .i64 x]) (by simp [results,Tryz.results106,go_sem,cX0,cX1,cX2,cX3,cX4]) rfl ⟨vz,x,S1,n1,ov1,rfl,by rw [HBD.out];exact Ans.er (bnd_er HXX.out) rfl HX0.out,hd9,hm9⟩
 · have HXX:=qq hX;have HAA:=qq ha;have HGD:=qq (HG.out rfl)
   clear hX ha HA HG
   have h0:=(rt_all R0.out).2.1;have h1:=(rt_all R1.out).2.1
   have hs0:=tx_size p0.s;have hs1:=tx_size p1.s
   by_cases hbig:64<p0.s.length
   · have hbig2:64<(tx p0.s).size:=by omega
     have HBIG:=qq hbig;clear hbig
     obtain ⟨cX0,cX1,cX2,cX3,cX4,zX0,zX1,zX2,zX3,zX4,hltX⟩:=HX3.out.fiv
     go_wp2_with fail
     refine denda (P:=bodyPost _ _ _ _ _) HD3.out HM3.out HX3.out (by omega) _ _ _ _ _ ?_
     clear cX0 cX1 cX2 cX3 cX4 zX0 zX1 zX2 zX3 zX4 HD3 HM3 HX3 
     intro w9 hd9 hm9 cX0 cX1 cX2 cX3 cX4
     refine bodyPost_ret (v:=.tuple #[.agg zz,.int .i64 3]) (by simp [results,Tryz.results106,go_sem,cX0,cX1,cX2,cX3,cX4]) rfl ⟨vz,3,S1,n1,ov1,rfl,by rw [HBD.out];obtain ⟨rfl,rfl,rfl⟩:=HAA.out;exact Ans.er (by rw [bnd_ok HXX.out];exact emit_big HBIG.out _ _) rfl (by decide),hd9,hm9⟩
   · have hbig2:¬ 64<(tx p0.s).size:=by omega
     have HBIG:=qq hbig;clear hbig
     obtain ⟨Bp,cp,hov⟩:=own_slice HD3.out.out
     have hlb3:=HD3.out.blk.lt
     have e57:=HD3.out.blk.c 57 _ rfl
     have hmx:=HGD.out.out
     change w3.cell? ⟨b,57,none⟩=some ov1 at e57
     subst hov
     by_cases hm:64≤S1.out.length
     · have hm2:((S1.out.length:Int) == 64)=true:=by rw [beq_iff_eq];omega
       have HMM:=qq hm;clear hm
       obtain ⟨cX0,cX1,cX2,cX3,cX4,zX0,zX1,zX2,zX3,zX4,hltX⟩:=HX3.out.fiv
       go_wp2_with fail
       refine denda (P:=bodyPost _ _ _ _ _) HD3.out HM3.out HX3.out (by omega) _ _ _ _ _ ?_
       clear cX0 cX1 cX2 cX3 cX4 zX0 zX1 zX2 zX3 zX4 HD3 HM3 HX3 
       intro w9 hd9 hm9 cX0 cX1 cX2 cX3 cX4
       refine bodyPost_ret (v:=.tuple #[.agg zz,.int .i64 22]) (by simp [results,Tryz.results106,go_sem,cX0,cX1,cX2,cX3,cX4]) rfl ⟨vz,22,S1,n1,_,rfl,by rw [HBD.out];obtain ⟨rfl,rfl,rfl⟩:=HAA.out;exact Ans.er (by rw [bnd_ok HXX.out];exact emit_many HBIG.out HMM.out _) rfl (by decide),hd9,hm9⟩
     · have hm2:((S1.out.length:Int) == 64)=false:=by rw [beq_eq_false_iff_ne];omega
       have HMM:=qq hm;clear hm
       obtain ⟨i0,hi0,hi1,hi2,hi3⟩:=info_parts infoP
       have HI0:=qq hi0;have HI1:=qq hi1;have HI2:=qq hi2;have HI3:=qq hi3
       clear hi0 hi1 hi2 hi3
       have HCL:=qq (fun w1=>clone_any (tx p0.s) w1 (by omega))
       have HOV:=qq (own_any p1.k p1.n p1.x p1.y (tx p1.s) (by omega))
       have HHP:Hid (Box w0 b E (.slice Bp S1.out.length cp) w3.heap.size [.int .i64 p0.k,.int .i64 p0.n,.string (tx p0.s),.int .i64 p0.x,.int .i64 p0.y,.int .i64 p1.k,.int .i64 p1.n,.string (tx p1.s),.int .i64 p1.x,.int .i64 p1.y,.int .i64 p2.k,.int .i64 p2.n,.string (tx p2.s),.int .i64 p2.x,.int .i64 p2.y] (w3.alloc (.cells #[.int .i64 p0.k,.int .i64 p0.n,.string (tx p0.s),.int .i64 p0.x,.int .i64 p0.y,.int .i64 p1.k,.int .i64 p1.n,.string (tx p1.s),.int .i64 p1.x,.int .i64 p1.y,.int .i64 p2.k,.int .i64 p2.n,.string (tx p2.s),.int .i64 p2.x,.int .i64 p2.y] 137))):=Box.made HD3.out (by omega) 137 [.int .i64 p0.k,.int .i64 p0.n,.string (tx p0.s),.int .i64 p0.x,.int .i64 p0.y,.int .i64 p1.k,.int .i64 p1.n,.string (tx p1.s),.int .i64 p1.x,.int .i64 p1.y,.int .i64 p2.k,.int .i64 p2.n,.string (tx p2.s),.int .i64 p2.x,.int .i64 p2.y]
       go_wp2_with fail
       go_region_law (first
        | (refine step_append_lies _ rfl (.tmp 39) (.tmp 48) 58 rfl w0.heap.size 152 i0 (.agg (pcl ([],vz)).toArray) 6 64 Tryz.underlying58 HI0.out HI1.out HI2.out HI3.out rfl (by decide) (.slice Bp S1.out.length cp) S1.out.length (pcells S1.out) (by simp [Act.eval]) (by exact (HD5.out.old (box1 w5 _)).out) ⟨w5.heap.size,0,none⟩ 1 1 (pcl (p0.s,p1)) (by simp [Act.eval]) rfl (by exact pair_at _ _ _ _ rfl) (pcl_one _) (by decide) (by unfold maxLen;omega) (by omega) (by exact (HD5.out.old (box1 w5 _)).fro.size) (w5.heap.size+1) (by simp) ?_
           intro g cap w6 hown' hgrow hgg hgl
           have HGG:=qq ((HD5.out.old (box1 w5 (.cells #[.string (tx p0.s),.int .i64 p1.k,.int .i64 p1.n,.string (tx p1.s),.int .i64 p1.x,.int .i64 p1.y] 152))).grown (by omega) hown' hgrow (by rw [World.size_alloc];exact hgg))
           obtain ⟨k57,z57⟩:=(HD5.out.old (box1 w5 (.cells #[.string (tx p0.s),.int .i64 p1.k,.int .i64 p1.n,.string (tx p1.s),.int .i64 p1.x,.int .i64 p1.y] 152))).cell_far hgrow
           clear hown' hgrow hgg hgl)
        | (go_simp
           go_at_call 37
           refine (HCL.out _).mono ?_
           rintro e w4 ⟨rfl,hb⟩
           have HD4:=qq (((HD3.out.old (box1 w3 (.cells #[.int .i64 p0.k,.int .i64 p0.n,.string (tx p0.s),.int .i64 p0.x,.int .i64 p0.y,.int .i64 p1.k,.int .i64 p1.n,.string (tx p1.s),.int .i64 p1.x,.int .i64 p1.y,.int .i64 p2.k,.int .i64 p2.n,.string (tx p2.s),.int .i64 p2.x,.int .i64 p2.y] 137))).old (below_drewN (Below.refl _ _) 1)).old hb);have HM4:=qq (((HM3.out.old (box1 w3 (.cells #[.int .i64 p0.k,.int .i64 p0.n,.string (tx p0.s),.int .i64 p0.x,.int .i64 p0.y,.int .i64 p1.k,.int .i64 p1.n,.string (tx p1.s),.int .i64 p1.x,.int .i64 p1.y,.int .i64 p2.k,.int .i64 p2.n,.string (tx p2.s),.int .i64 p2.x,.int .i64 p2.y] 137))).old (below_drewN (Below.refl _ _) 1)).old hb);have HX4:=qq (((HX3.out.old (box1 w3 (.cells #[.int .i64 p0.k,.int .i64 p0.n,.string (tx p0.s),.int .i64 p0.x,.int .i64 p0.y,.int .i64 p1.k,.int .i64 p1.n,.string (tx p1.s),.int .i64 p1.x,.int .i64 p1.y,.int .i64 p2.k,.int .i64 p2.n,.string (tx p2.s),.int .i64 p2.x,.int .i64 p2.y] 137))).old (below_drewN (Below.refl _ _) 1)).old hb);have HP4:=qq ((HHP.out.old (below_drewN (Below.refl _ _) 1)).old hb)
           have hlb4:=HD4.out.blk.lt
           have e574:w4.cell? ⟨b,57,none⟩=some (.slice Bp S1.out.length cp):=HD4.out.blk.c 57 _ rfl
           have qP5:=HP4.out.blk.c 5 _ rfl;have qP6:=HP4.out.blk.c 6 _ rfl;have qP7:=HP4.out.blk.c 7 _ rfl;have qP8:=HP4.out.blk.c 8 _ rfl;have qP9:=HP4.out.blk.c 9 _ rfl
           clear hb)
        | (go_simp
           go_at_call 57
           refine (HOV.out _).mono ?_
           rintro e w5 ⟨rfl,hb⟩
           have HD5:=qq (HD4.out.old hb);have HM5:=qq (HM4.out.old hb);have HX5:=qq (HX4.out.old hb);have HP5:=qq (HP4.out.old hb)
           have hlb5:=HD5.out.blk.lt
           have e575:w5.cell? ⟨b,57,none⟩=some (.slice Bp S1.out.length cp):=HD5.out.blk.c 57 _ rfl
           clear hb))
       all_goals
        obtain ⟨hd7,hm7⟩:=HGG.out
        have HD7:=qq hd7;have HM7:=qq ((HM5.out.old (box1 w5 (.cells #[.string (tx p0.s),.int .i64 p1.k,.int .i64 p1.n,.string (tx p1.s),.int .i64 p1.x,.int .i64 p1.y] 152))).trans hm7);have HX7:=qq ((HX5.out.old (box1 w5 (.cells #[.string (tx p0.s),.int .i64 p1.k,.int .i64 p1.n,.string (tx p1.s),.int .i64 p1.x,.int .i64 p1.y] 152))).mv hm7);have HP7:=qq ((HP5.out.old (box1 w5 (.cells #[.string (tx p0.s),.int .i64 p1.k,.int .i64 p1.n,.string (tx p1.s),.int .i64 p1.x,.int .i64 p1.y] 152))).mv hm7)
        clear hd7 hm7 HGG HD3 HM3 HX3 HHP HD4 HM4 HX4 HP4 HD5 HM5 HX5 HP5 e57 e574 e575 k57 z57 HCL HOV HI0 HI1 HI2 HI3 qP5 qP6 qP7 qP8 qP9
        generalize w6.setCell ⟨b,57,none⟩ (.slice (some ⟨g,0,none⟩) (S1.out.length+1) cap)=w7 at *
        have qP5:=HP7.out.blk.c 5 _ rfl
        have qP6:=HP7.out.blk.c 6 _ rfl
        have qP7:=HP7.out.blk.c 7 _ rfl
        have qP8:=HP7.out.blk.c 8 _ rfl
        have qP9:=HP7.out.blk.c 9 _ rfl
        obtain ⟨cX0,cX1,cX2,cX3,cX4,zX0,zX1,zX2,zX3,zX4,hltX⟩:=HX7.out.fiv
        go_wp2_with fail
        refine dend0 (P:=bodyPost _ _ _ _ _) HD7.out HM7.out HX7.out (by omega) _ _ _ _ _ ?_
        clear qP5 qP6 qP7 qP8 qP9 cX0 cX1 cX2 cX3 cX4 zX0 zX1 zX2 zX3 zX4 HD7 HM7 HX7 HP7 
        intro w9 hd9 hm9 cX0 cX1 cX2 cX3 cX4
        refine bodyPost_ret (v:=.tuple #[.agg p1,.int .i64 0]) (by simp [results,Tryz.results106,go_sem,cX0,cX1,cX2,cX3,cX4]) rfl ⟨p1,0,{ S1 with out:=S1.out++[(p0.s,p1)] },n1,_,rfl,by rw [HBD.out];obtain ⟨rfl,rfl,rfl⟩:=HAA.out;exact Ans.ok (by rw [bnd_ok HXX.out];exact emit_ok HBIG.out HMM.out _) rfl,hd9,hm9⟩
end Go.Proofs.YtgakcpcpfkoaiaaGreatDoor.Ev
