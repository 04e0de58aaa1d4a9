/-
  A text of this claim: ErDoE.
-/
import Derived.Test.YtgakcpcpfkoaiaaGreatDoorQ1
import Derived.Test.YtgakcpcpfkoaiaaGreatDoorQErDo
import Derived.Test.YtgakcpcpfkoaiaaGreatDoorQ6
import Derived.Test.YtgakcpcpfkoaiaaGreatDoorQEvDeed8
set_option maxHeartbeats 8000000
set_option maxRecDepth 100000
namespace Go.Proofs.YtgakcpcpfkoaiaaGreatDoor.Ev
open Go.ChangeShapes Go.WideShapes Go.ChangeAt Go.RowKit Ov Va Ga Ex
theorem md_each {d:Nat} (H:MoC (ev d) d):MdC d 28:=by
 intro w0 A c E b l S n ov w k r hcx hd hg hkl ho hrn hx hd24
 have hl:=hcx.len
 have hn5:=hg.fuel
 have hl0:Hid (0<l.length):=show 0<l.length by omega
 obtain ⟨B,O,hA⟩:=hcx.nds.shape (by omega)
 have HCX:=qq hcx
 have hx3:=hx
 rw [show pa 28=1+1 from rfl,it_succ] at hx3
 obtain ⟨r1,x1,hx3⟩:=Option.bind_eq_some_iff.1 hx3
 obtain ⟨g1,g2,g3⟩:=ex_drop_len x1 (by omega)
 obtain ⟨y1,hy1⟩:∃ y1,l.length - r1.length=y1:=⟨_,rfl⟩
 rw [hy1] at g1 g2
 rw [g1] at hx3
 have hy1l:y1≤l.length:=by omega
 have hk1:k+1<l.length:=by omega
 have HB1:Hid (l.length - (nx (l.drop (k+1))).length=y1):=by show _=_;rw [nx_of x1 (by omega)];exact hy1
 have HN1:Hid (nx (l.drop (k+1))=l.drop y1):=by show _=_;rw [nx_of x1 (by omega)];exact g1
 have HC1:=qq (fun S1 n1 ov1 w3 hd3 hg3=>H w0 A c E b l S1 n1 ov1 w3 (k+1) r1 hcx hd3 hg3 x1 (by omega))
 have HGE:=qq (ev_good d (by omega) _ _ x1)
 rw [it_succ] at hx3
 obtain ⟨r2,x2,hx4⟩:=Option.bind_eq_some_iff.1 hx3
 obtain ⟨g4,g5,g6⟩:=ex_drop_len x2 hy1l
 have hy1n:y1<l.length:=by omega
 have HC2:=qq (fun S1 n1 ov1 w3 hd3 hg3=>H w0 A c E b l S1 n1 ov1 w3 y1 r2 hcx hd3 hg3 x2 (by omega))
 have HGE2:=qq (fun S1 n1 v S2 n2 hg1 h=>ev_good d (by omega) _ _ x2 S1 n1 v S2 n2 hg1 h)
 clear g1 g2 g3 g4 g5 g6 hy1 x1 x2 hx3 hx4 hx H
 have HA0:=qq hA
 have e21:w.cell? ⟨b,21,none⟩=some (.int .i64 0):=hd.blk.c 21 _ rfl
 have e20:w.cell? ⟨b,20,none⟩=some (.int .i64 ((n:Int)+1)):=hd.blk.c 20 _ rfl
 have f20:=hd.blk.f 20 _ rfl
 have hltb:=hd.lt
 obtain ⟨w1,hw1,hd1,hm1,hbX,hsz⟩:=mdo_pre hd hl0.out
 have hnw:=hcx.nds.next hd1.fro
 rw [hA] at hnw
 obtain ⟨vk,vn,vs,vx,vy,hv⟩:∃ vk vn vs vx vy,(nd l k).v=⟨vk,vn,vs,vx,vy⟩:=⟨_,_,_,_,_,rfl⟩
 obtain ⟨nd1,hnd⟩:∃ N,nd l k=N:=⟨_,rfl⟩
 have j0:w1.cell? ⟨B,O+k * 6,none⟩=some (.int .i64 28):=by
  have h:=hnw.cell hkl 0 _ rfl
  rw [ho] at h;exact h
 have j1:w1.cell? ⟨B,O+k * 6+1,none⟩=some (.int .i64 vk):=by
  have h:=hnw.cell hkl 1 _ rfl
  rw [hv] at h;exact h
 have j2:w1.cell? ⟨B,O+k * 6+2,none⟩=some (.int .i64 vn):=by
  have h:=hnw.cell hkl 2 _ rfl
  rw [hv] at h;exact h
 have j3:w1.cell? ⟨B,O+k * 6+3,none⟩=some (.string (tx vs)):=by
  have h:=hnw.cell hkl 3 _ rfl
  rw [hv] at h;exact h
 have j4:w1.cell? ⟨B,O+k * 6+4,none⟩=some (.int .i64 vx):=by
  have h:=hnw.cell hkl 4 _ rfl
  rw [hv] at h;exact h
 have j5:w1.cell? ⟨B,O+k * 6+5,none⟩=some (.int .i64 vy):=by
  have h:=hnw.cell hkl 5 _ rfl
  rw [hv] at h;exact h
 have hBl:B<w1.heap.size:=block_lt_of_cell j0
 have i0:w1.cell? ⟨b,0,none⟩=some (.slice (some ⟨B,O,none⟩) l.length c):=by rw [← hA];exact hd1.blk.c 0 _ rfl
 have HD1:=qq hd1;have HM1:=qq hm1;have HX1:=qq hbX;have HW1:=qq hw1;have HSZ:=qq hsz;have HG:=qq (gd_less hg);have HO:=qq ho;have HR:=qq hrn;have HV:=qq hv;have HK:=qq hkl
 clear hcx hd hg ho hrn hv hw1 hd1 hm1 hbX hsz hnw hnd hA
 go_enter Tryz.func61,Tryz.ntmps61
 go_upto_region 6 with fail
 rw [HW1.out]
 clear e21 e20 f20 HW1
 have hbN:=Box.makeM HD1.out hl0.out 46 [.int .i64 28,.int .i64 vk,.int .i64 vn,.string (tx vs),.int .i64 vx,.int .i64 vy]
 have hb:=box1 w1 (.cells #[.int .i64 28,.int .i64 vk,.int .i64 vn,.string (tx vs),.int .i64 vx,.int .i64 vy] 46)
 obtain ⟨w2,hw2⟩:∃ w2,w1.alloc (.cells #[.int .i64 28,.int .i64 vk,.int .i64 vn,.string (tx vs),.int .i64 vx,.int .i64 vy] 46)=w2:=⟨_,rfl⟩
 rw [show w1.alloc (.cells [.int .i64 28,.int .i64 vk,.int .i64 vn,.string (tx vs),.int .i64 vx,.int .i64 vy].toArray 46)=w2 from hw2] at hbN
 rw [hw2] at hb
 have HW2:=qq hw2;have HN2:=qq hbN
 clear hw2 hbN
 have HD2:=qq (HD1.out.old hb)
 have HM2:=qq (HM1.out.old hb)
 have HX2:=qq (HX1.out.old hb)
 clear hb HD1 HM1 HX1  
 have HRES:Hid (body (ev d) (nd l k) (l.drop (k+1)) S n=bnd (ev d (l.drop (k+1))) (fun a=>if a.k ≠ 0 then fail 13 else if a.n<0 then fail 14 else withI (lp (ev d (nx (l.drop (k+1)))) a.n.toNat 0 vz)) S n):=by
  show _=_
  unfold body
  rw [if_neg (by rw [HO.out];decide),if_neg (by rw [HO.out];decide),if_neg (by rw [HO.out];decide),if_pos HO.out]
 have qN0:=HN2.out.blk.c 0 _ rfl
 go_wp2_with fail
 rw [HW2.out]
 clear HW2 j0 j1 j2 j3 j4 j5 i0 hBl
 refine (word_28 _).mono ?_
 rintro e w3 ⟨rfl,hb⟩
 have HD3:=qq (HD2.out.old hb)
 have HM3:=qq (HM2.out.old hb)
 have HX3:=qq (HX2.out.old hb)
 have HN3:=qq (HN2.out.old hb)
 clear hb HD2 HM2 HX2 HN2 qN0 
 have HCC:=qq (HC1.out S n ov w3 HD3.out HG.out)
 go_wp2_with fail
 refine (HCC.out).mono ?_
 rintro e w4 ⟨u,x,S1,n1,ov1,rfl,hans,hz,hd3,hm3⟩
 have HA:=qq hans;have HZ:=qq hz;have HD4:=qq hd3;have HM4:=qq (HM3.out.trans hm3);have HX4:=qq (HX3.out.mv hm3);have HN4:=qq (HN3.out.mv hm3)
 clear hans hz hd3 hm3 HD3 HM3 HX3 HN3  HCC HC1
 obtain ⟨XX,hXX⟩:∃ XX,ev d (l.drop (k+1)) S n=XX:=⟨_,rfl⟩
 have HXX:=qq hXX
 rw [hXX] at HA
 clear hXX
 have hbV:=Box.makeM HD4.out hl0.out 28 u
 have hb:=box1 w4 (.cells u 28)
 obtain ⟨w5,hw5⟩:∃ w5,w4.alloc (.cells u 28)=w5:=⟨_,rfl⟩
 rw [show w4.alloc (.cells u 28)=w5 from hw5] at hbV
 rw [hw5] at hb
 have HW5:=qq hw5;have HV5:=qq hbV
 clear hw5 hbV
 have HD5:=qq (HD4.out.old hb)
 have HM5:=qq (HM4.out.old hb)
 have HX5:=qq (HX4.out.old hb)
 have HN5:=qq (HN4.out.old hb)
 clear hb HD4 HM4 HX4 HN4  
 go_upto_region 22 with fail
 rw [HW5.out]
 clear HW5 
 have hltb5:=HD5.out.lt
 have m21:w5.cell? ⟨b,21,none⟩=some (.int .i64 x):=HD5.out.blk.c 21 _ rfl
 rcases HA.out.cases with ⟨hx0,hX⟩ | ⟨rfl,a,rfl,hX⟩
 · have HX0:=qq hx0
   have hx1:(x != 0)=true:=by simpa using hx0
   have HRE:Hid (body (ev d) (nd l k) (l.drop (k+1)) S n=.er x):=by show _=_;rw [HRES.out];exact bnd_er (by rw [HXX.out,hX])
   clear hx0 hX HA
   obtain ⟨cX0,cX1,cX2,cX3,cX4,zX0,zX1,zX2,zX3,zX4,hltX⟩:=HX5.out.five
   go_wp2_with fail
   refine mend (P:=bodyPost _ _ _ _ _) HD5.out HM5.out HX5.out (by omega) _ _ _ _ _ ?_
   clear HD5 HM5 HX5 HN5 HV5 m21 cX0 cX1 cX2 cX3 cX4 zX0 zX1 zX2 zX3 zX4
   intro w9 hd9 hm9 c0 c1 c2 c3 c4
   refine bodyPost_ret (v:=.agg zz) (by simp [results,Tryz.results61,go_sem,c0,c1,c2,c3,c4]) rfl ⟨vz,x,S1,n1,ov1,rfl,Ans.er HRE.out rfl HX0.out,fun _=>rfl,hd9,hm9⟩
 · have HU:Hid (ev d (l.drop (k+1)) S n=.ok u S1 n1):=by show _=_;rw [HXX.out,hX]
   obtain ⟨hu1,hg1⟩:=HGE.out S n u S1 n1 HG.out HU.out
   have HU1:=qq hu1;have HG1:=qq hg1
   clear hX HA hu1 hg1 HGE HXX
   have m1:w5.cell? ⟨b,1,none⟩=some (.slice (some ⟨E,0,none⟩) l.length l.length):=HD5.out.blk.c 1 _ rfl
   have b2:w5.cell? ⟨E,k+1,none⟩=some (.int .i64 (y1:Int)):=by have h:=HD5.out.beh (k+1) hk1;rw [HB1.out] at h;exact h
   have hlE:=HD5.out.ltE (by omega)
   have hV:=HV5.out.blk.lt;have hXl:=HX5.out.blk.lt
   have qV0:=HV5.out.blk.c 0 _ rfl
   have qV1:=HV5.out.blk.c 1 _ rfl
   have hun:=(rt_all HU1.out).1
   obtain ⟨hn1,hn2⟩:=hun
   by_cases hk:u.k=0
   · have hk1:(u.k != 0)=false:=by simpa using hk
     by_cases hz:u.n<0
     · have HRE:Hid (body (ev d) (nd l k) (l.drop (k+1)) S n=.er 14):=by show _=_;rw [HRES.out,bnd_ok HU.out,if_neg (fun e=>e hk),if_pos hz];rfl
       clear hk
       have HF:=qq (mfail_at 14 (by decide) HD5.out)
       go_wp2_with fail
       refine (HF.out).mono ?_
       rintro e w6 ⟨rfl,hd3,hm3⟩
       have HD6:=qq hd3;have HM6:=qq (HM5.out.trans hm3);have HX6:=qq (HX5.out.mv hm3)
       clear hd3 hm3 HD5 HM5 HX5 HN5 HV5 m21 m1 b2 hlE qV0 qV1 HF
       obtain ⟨cX0,cX1,cX2,cX3,cX4,zX0,zX1,zX2,zX3,zX4,hltX⟩:=HX6.out.five
       go_wp2_with fail
       refine mend (P:=bodyPost _ _ _ _ _) HD6.out HM6.out HX6.out (by omega) _ _ _ _ _ ?_
       clear HD6 HM6 HX6 cX0 cX1 cX2 cX3 cX4 zX0 zX1 zX2 zX3 zX4
       intro w9 hd9 hm9 c0 c1 c2 c3 c4
       refine bodyPost_ret (v:=.agg zz) (by simp [results,Tryz.results61,go_sem,c0,c1,c2,c3,c4]) rfl ⟨vz,14,S1,n1,ov1,rfl,Ans.er HRE.out rfl (by decide),fun _=>rfl,hd9,hm9⟩
     · obtain ⟨M,hM⟩:∃ M:Nat,u.n=(M:Int):=⟨u.n.toNat,by omega⟩
       have hMb:M≤9007199254740992:=by omega
       have HRE:Hid (body (ev d) (nd l k) (l.drop (k+1)) S n=withI (lp (ev d (l.drop y1)) M 0 vz) S1 n1):=by
        show _=_
        rw [HRES.out,bnd_ok HU.out,HN1.out,if_neg (fun e=>e hk),if_neg hz,hM];rfl
       obtain ⟨uk,un,us,ux,uy⟩:=u
       replace hM:un=(M:Int):=hM
       subst hM
       replace hk1:(uk != 0)=false:=hk1
       clear hk hz HRES
       clear qV0 qV1
       have hbV2:Box w0 b E ov1 w4.heap.size [.int .i64 uk,.int .i64 (M:Int),.string (tx us),.int .i64 ux,.int .i64 uy] w5:=HV5.out
       have HV5:=qq hbV2
       clear hbV2
       have qV0:=HV5.out.blk.c 0 _ rfl
       have qV1:=HV5.out.blk.c 1 _ rfl
       have m13:w5.cell? ⟨b,13,none⟩=some (.int .i64 S1.i):=HD5.out.blk.c 13 _ rfl
       go_wp2_with fail
       refine (mnum_any _ _).mono ?_
       rintro e w6 ⟨rfl,hb⟩
       have HD6:=qq (HD5.out.old hb)
       have HM6:=qq (HM5.out.old hb)
       have HX6:=qq (HX5.out.old hb)
       have HN6:=qq (HN5.out.old hb)
       have HV6:=qq (HV5.out.old hb)
       clear hb HD5 HM5 HX5 HN5 HV5 m21 m1 b2 hlE qV0 qV1 m13 
       have hlV:=HV6.out.blk.lt;have hlX:=HX6.out.blk.lt
       have hbL:=Box.makeM HD6.out hl0.out 28 zz
       have hb:=box1 w6 (.cells zz 28)
       obtain ⟨w7,hw7⟩:∃ w7,w6.alloc (.cells zz 28)=w7:=⟨_,rfl⟩
       rw [show w6.alloc (.cells zz 28)=w7 from hw7] at hbL
       rw [hw7] at hb
       have HW7:=qq hw7;have HL7:=qq hbL
       clear hw7 hbL
       have HD7:=qq (HD6.out.old hb)
       have HM7:=qq (HM6.out.old hb)
       have HX7:=qq (HX6.out.old hb)
       have HN7:=qq (HN6.out.old hb)
       have HV7:=qq (HV6.out.old hb)
       clear hb HD6 HM6 HX6 HN6 HV6  
       go_wp2_with fail
       rw [HW7.out]
       clear HW7
       generalize hLB:w6.heap.size=LB at *
       have HVne:Hid (LB ≠ w4.heap.size):=by show _ ≠ _;omega
       have HXne:Hid (LB ≠ w.heap.size):=by show _ ≠ _;omega
       have HLw:Hid (w.heap.size≤LB):=by show _≤_;omega
       clear hLB hlV hlX
       go_loopw [13] (fun P wr=>∃ (j n2:Nat) (v:Va) (x:Int) (S2:St) (ov2:Value),j≤M∧P=.int .i64 (j:Int)∧((x=0∧lp (ev d (l.drop y1)) M 0 vz S1 n1=lp (ev d (l.drop y1)) (M - j) (j:Int) v S2 n2∧Gd S2 n2)∨(x ≠ 0∧lp (ev d (l.drop y1)) M 0 vz S1 n1=.er x∧v=vz))∧Mac w0 A c E b l S2 n2 x ov2 wr∧Mv b ov w ov2 wr∧Box w0 b E ov2 w.heap.size zz wr∧Box w0 b E ov2 w4.heap.size [.int .i64 uk,.int .i64 (M:Int),.string (tx us),.int .i64 ux,.int .i64 uy] wr∧Box w0 b E ov2 LB v wr) (fun P _=>M - (intOf P).toNat)
       case atStart=>exact ⟨0,n1,vz,0,S1,ov1,Nat.zero_le _,rfl,.inl ⟨rfl,rfl,HG1.out⟩,HD7.out,HM7.out,HX7.out,HV7.out,HL7.out⟩
       case round =>
        clear HD7 HM7 HX7 HV7 HL7 HN7 HU1 HG
        obtain ⟨j,n2,v,x,S2,ov2,hj,rfl,hcs,hd,hm,hx,hv,hlb⟩:=hrel
        have HD8:=qq hd;have HM8:=qq hm;have HX8:=qq hx;have HV8:=qq hv;have HL8:=qq hlb
        clear hd hm hx hv hlb
        obtain ⟨w8,hw8⟩:∃ w,w=wr:=⟨_,rfl⟩
        subst hw8
        have hltb8:=HD8.out.lt
        have qV1:=HV8.out.blk.c 1 _ rfl
        have m21:w8.cell? ⟨b,21,none⟩=some (.int .i64 x):=HD8.out.blk.c 21 _ rfl
        by_cases hlt:j<M
        · have hlt2:decide ((j:Int)<(M:Int))=true:=decide_eq_true (by omega)
          rcases hcs with ⟨rfl,hlp,hg⟩ | ⟨hx0,hlp,hvz⟩
          · have HG2:=qq hg
            have HLP:Hid (lp (ev d (l.drop y1)) M 0 vz S1 n1=bnd (ev d (l.drop y1)) (fun v=>lp (ev d (l.drop y1)) (M - (j+1)) ((j+1:Nat):Int) v) { S2 with i:=(j:Int) } n2):=by
             show _=_
             rw [hlp,show M - j=(M - (j+1))+1 by omega,lp_succ];rfl
            clear hlp hg
            have m13:w8.cell? ⟨b,13,none⟩=some (.int .i64 S2.i):=HD8.out.blk.c 13 _ rfl
            have z13:=HD8.out.blk.f 13 _ rfl
            go_upto_region 49 with fail
            refine mi1 (P:=Code.wp _ _ _ _) HD8.out HM8.out (j:Int) ?_
            intro w9 hd2 hm2 hbx
            have HD9:=qq hd2;have HM9:=qq hm2;have HX9:=qq (hbx _ _ HX8.out);have HV9:=qq (hbx _ _ HV8.out);have HL9:=qq (hbx _ _ HL8.out)
            clear hd2 hm2 hbx HD8 HM8 HX8 HV8 HL8 qV1 m21 m13 z13
            have HG7:Hid (Gd { S2 with i:=(j:Int) } n2):=⟨HG2.out.key,HG2.out.val,HG2.out.acc,⟨by show _≤(j:Int);omega,by show (j:Int)≤_;omega⟩,HG2.out.it,HG2.out.out,HG2.out.fuel⟩
            have HCC:=qq (HC2.out { S2 with i:=(j:Int) } n2 ov2 w9 HD9.out HG7.out)
            go_wp2_with fail
            refine (HCC.out).mono ?_
            rintro e w10 ⟨v2,x2,S3,n3,ov3,rfl,hans,hz,hd3,hm3⟩
            have HAN:=qq hans;have HZ:=qq hz;have HD10:=qq hd3;have HM10:=qq (HM9.out.trans hm3);have HX10:=qq (HX9.out.mv hm3);have HV10:=qq (HV9.out.mv hm3);have HL10:=qq (HL9.out.mv hm3)
            clear hans hz hd3 hm3 HCC HD9 HM9 HX9 HV9 HL9
            obtain ⟨cL0,cL1,cL2,cL3,cL4,zL0,zL1,zL2,zL3,zL4,hltL⟩:=HL10.out.five
            go_upto_region 47 with fail
            refine mstore5 (P:=Code.wp _ _ _ _) HD10.out HM10.out HL10.out HLw.out _ _ _ _ _ ?_
            intro w11 hd2 hm2 hl2 hbx
            have HD11:=qq hd2;have HM11:=qq hm2;have HL11:=qq hl2;have HX11:=qq (hbx _ _ HXne.out HX10.out);have HV11:=qq (hbx _ _ HVne.out HV10.out)
            clear hd2 hm2 hl2 hbx HD10 HM10 HX10 HV10 HL10 cL0 cL1 cL2 cL3 cL4 zL0 zL1 zL2 zL3 zL4 hltL
            have HCS:Hid ((x2=0∧lp (ev d (l.drop y1)) M 0 vz S1 n1=lp (ev d (l.drop y1)) (M - (j+1)) ((j+1:Nat):Int) v2 S3 n3∧Gd S3 n3)∨(x2 ≠ 0∧lp (ev d (l.drop y1)) M 0 vz S1 n1=.er x2∧v2=vz)):=by
             rcases HAN.out.cases with ⟨hx0,hX⟩ | ⟨hx0,a,ha,hX⟩
             · exact .inr ⟨hx0,by rw [HLP.out,bnd_er hX],HZ.out hx0⟩
             · subst ha
               exact .inl ⟨hx0,by rw [HLP.out,bnd_ok hX],(HGE2.out _ _ _ _ _ HG7.out hX).2⟩
            clear HAN HZ HLP HG7
            go_wp2_with fail
            go_roundw
            case rel=>exact ⟨j+1,n3,v2,x2,S3,ov3,by omega,by go_num,HCS.out,HD11.out,HM11.out,HX11.out,HV11.out,HL11.out⟩
            case measure=>simp [intOf];omega
          · have hx1:(x == 0)=false:=by simpa using hx0
            have HX0:=qq hx0;have HLP:=qq hlp;have HVZ:=qq hvz
            clear hx0 hlp hvz
            have m13:w8.cell? ⟨b,13,none⟩=some (.int .i64 S2.i):=HD8.out.blk.c 13 _ rfl
            have z13:=HD8.out.blk.f 13 _ rfl
            go_upto_region 51 with fail
            refine mi1 (P:=Code.wp _ _ _ _) HD8.out HM8.out S1.i ?_
            intro w9 hd2 hm2 hbx
            have HD9:=qq hd2;have HM9:=qq hm2;have HX9:=qq (hbx _ _ HX8.out);have HL9:=qq (hbx _ _ HL8.out)
            clear hd2 hm2 hbx HD8 HM8 HX8 HV8 HL8 qV1 m21 m13 z13
            obtain ⟨qL0,qL1,qL2,qL3,qL4⟩:=ck5 HL9.out.blk
            obtain ⟨cX0,cX1,cX2,cX3,cX4,zX0,zX1,zX2,zX3,zX4,hltX⟩:=HX9.out.five
            go_wp2_with fail
            refine mend (P:=bodyPost _ _ _ _ _) HD9.out HM9.out HX9.out (by omega) _ _ _ _ _ ?_
            clear HD9 HM9 HX9 HL9 qL0 qL1 qL2 qL3 qL4 cX0 cX1 cX2 cX3 cX4 zX0 zX1 zX2 zX3 zX4
            intro w9 hd9 hm9 c0 c1 c2 c3 c4
            refine bodyPost_ret (v:=.agg v) (by simp [results,Tryz.results61,go_sem,c0,c1,c2,c3,c4]) rfl ⟨v,x,{ S2 with i:=S1.i },n2,ov2,rfl,by rw [HRE.out];exact withI_ans (P:=fun a=>v=a) (S2:=S2) (n2:=n2) (Ans.er HLP.out rfl HX0.out),fun _=>HVZ.out,hd9,hm9⟩
        · have hlt2:decide ((j:Int)<(M:Int))=false:=decide_eq_false (by omega)
          have HANS:Hid (Ans (lp (ev d (l.drop y1)) M 0 vz S1 n1) (fun a=>v=a) x S2 n2∧(x ≠ 0→v=vz)):=by
           rcases hcs with ⟨hx0,hlp,hg⟩ | ⟨hx0,hlp,hvz⟩
           · refine ⟨?_,fun h=>absurd hx0 h⟩
             rw [hx0]
             exact Ans.ok (by rw [hlp,show M - j=0 by omega];rfl) rfl
           · exact ⟨Ans.er hlp rfl hx0,fun _=>hvz⟩
          clear hcs
          have m13:w8.cell? ⟨b,13,none⟩=some (.int .i64 S2.i):=HD8.out.blk.c 13 _ rfl
          have z13:=HD8.out.blk.f 13 _ rfl
          go_upto_region 51 with fail
          refine mi1 (P:=Code.wp _ _ _ _) HD8.out HM8.out S1.i ?_
          intro w9 hd2 hm2 hbx
          have HD9:=qq hd2;have HM9:=qq hm2;have HX9:=qq (hbx _ _ HX8.out);have HL9:=qq (hbx _ _ HL8.out)
          clear hd2 hm2 hbx HD8 HM8 HX8 HV8 HL8 qV1 m21 m13 z13
          obtain ⟨qL0,qL1,qL2,qL3,qL4⟩:=ck5 HL9.out.blk
          obtain ⟨cX0,cX1,cX2,cX3,cX4,zX0,zX1,zX2,zX3,zX4,hltX⟩:=HX9.out.five
          go_wp2_with fail
          refine mend (P:=bodyPost _ _ _ _ _) HD9.out HM9.out HX9.out (by omega) _ _ _ _ _ ?_
          clear HD9 HM9 HX9 HL9 qL0 qL1 qL2 qL3 qL4 cX0 cX1 cX2 cX3 cX4 zX0 zX1 zX2 zX3 zX4
          intro w9 hd9 hm9 c0 c1 c2 c3 c4
          refine bodyPost_ret (v:=.agg v) (by simp [results,Tryz.results61,go_sem,c0,c1,c2,c3,c4]) rfl ⟨v,x,{ S2 with i:=S1.i },n2,ov2,rfl,by rw [HRE.out];exact withI_ans HANS.out.1,HANS.out.2,hd9,hm9⟩
   · have hk1:(u.k != 0)=true:=by simpa using hk
     have HRE:Hid (body (ev d) (nd l k) (l.drop (k+1)) S n=.er 13):=by show _=_;rw [HRES.out,bnd_ok HU.out,if_pos hk];rfl
     clear hk
     have HF:=qq (mfail_at 13 (by decide) HD5.out)
     go_wp2_with fail
     refine (HF.out).mono ?_
     rintro e w6 ⟨rfl,hd3,hm3⟩
     have HD6:=qq hd3;have HM6:=qq (HM5.out.trans hm3);have HX6:=qq (HX5.out.mv hm3)
     clear hd3 hm3 HD5 HM5 HX5 HN5 HV5 m21 m1 b2 hlE qV0 qV1 HF
     obtain ⟨cX0,cX1,cX2,cX3,cX4,zX0,zX1,zX2,zX3,zX4,hltX⟩:=HX6.out.five
     go_wp2_with fail
     refine mend (P:=bodyPost _ _ _ _ _) HD6.out HM6.out HX6.out (by omega) _ _ _ _ _ ?_
     clear HD6 HM6 HX6 cX0 cX1 cX2 cX3 cX4 zX0 zX1 zX2 zX3 zX4
     intro w9 hd9 hm9 c0 c1 c2 c3 c4
     refine bodyPost_ret (v:=.agg zz) (by simp [results,Tryz.results61,go_sem,c0,c1,c2,c3,c4]) rfl ⟨vz,13,S1,n1,ov1,rfl,Ans.er HRE.out rfl (by decide),fun _=>rfl,hd9,hm9⟩
end Go.Proofs.YtgakcpcpfkoaiaaGreatDoor.Ev
