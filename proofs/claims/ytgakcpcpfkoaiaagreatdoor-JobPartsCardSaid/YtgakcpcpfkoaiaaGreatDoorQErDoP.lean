/-
  A text of this claim: ErDoP.
-/
import Derived.Test.YtgakcpcpfkoaiaaGreatDoorQ1
import Derived.Test.YtgakcpcpfkoaiaaGreatDoorQErDo
import Derived.Test.YtgakcpcpfkoaiaaGreatDoorQ8
import Derived.Test.YtgakcpcpfkoaiaaGreatDoorQ7
set_option maxHeartbeats 4000000
set_option maxRecDepth 100000
namespace Go.Proofs.YtgakcpcpfkoaiaaGreatDoor.Ev
open Go.ChangeShapes Go.WideShapes Go.ChangeAt Go.RowKit Ov Va Ga Ex
theorem wd_ne {o:Int} (ho:2≤o∧o≤27) (h11:o ≠ 11):((tx (wd o)).toList == [105,102])=false∧((tx (wd o)).toList == [108,101,116])=false∧((tx (wd o)).toList == [101,97,99,104])=false:=by
 rw [ByteArray.toList_eq,tx_list]
 have h:o=2∨o=3∨o=4∨o=5∨o=6∨o=7∨o=8∨o=9∨o=10∨o=12∨o=13∨o=14∨o=15∨o=16∨o=17∨o=18∨o=19∨o=20∨o=21∨o=22∨o=23∨o=24∨o=25∨o=26∨o=27:=by omega
 rcases h with rfl | rfl | rfl | rfl | rfl | rfl | rfl | rfl | rfl | rfl | rfl | rfl | rfl | rfl | rfl | rfl | rfl | rfl | rfl | rfl | rfl | rfl | rfl | rfl | rfl <;> decide
theorem md_kind {d:Nat} (H:MoC (ev d) d) {o:Int} (ho2:2≤o∧o≤27) (h11:o ≠ 11):MdC d o:=by
 intro w0 A c E b l S n ov w k r hcx hd hg hkl ho hrn hx hd24
 have hl:=hcx.len
 have hn5:=hg.fuel
 have hl0:Hid (0<l.length):=show 0<l.length by omega
 obtain ⟨B,O,hA⟩:=hcx.nds.shape (by omega)
 have HCX:=qq hcx
 have hpa:=(kind_in (o:=o) ⟨by omega,by omega⟩).1
 have hx3:=hx
 rw [show pa o=(pa o - 1)+1 by omega,it_succ] at hx3
 obtain ⟨r1,x1,hx3⟩:=Option.bind_eq_some_iff.1 hx3
 obtain ⟨g1,g2,g3⟩:=ex_drop_len x1 (by omega)
 obtain ⟨y1,hy1⟩:∃ y1,l.length - r1.length=y1:=⟨_,rfl⟩
 rw [hy1] at g1 g2
 rw [g1] at hx3
 have hy1l:y1≤l.length:=by omega
 have hk1:k+1<l.length:=by omega
 have HB1:Hid (l.length - (nx (l.drop (k+1))).length=y1):=by show _=_;rw [nx_of x1 (by omega)];exact hy1
 have HN1:Hid (nx (l.drop (k+1))=l.drop y1):=by show _=_;rw [nx_of x1 (by omega)];exact g1
 have HC1:=qq (fun S1 n1 ov1 w3 hd3 hg3=>H w0 A c E b l S1 n1 ov1 w3 (k+1) r1 hcx hd3 hg3 x1 (by omega))
 have HGE:=qq (ev_good d (by omega) _ _ x1)
 have HX3:=qq hx3
 have HH:=qq H
 clear g1 g2 g3 hy1 x1 hx3 hx H
 have HA0:=qq hA
 have e21:w.cell? ⟨b,21,none⟩=some (.int .i64 0):=hd.blk.c 21 _ rfl
 have e20:w.cell? ⟨b,20,none⟩=some (.int .i64 ((n:Int)+1)):=hd.blk.c 20 _ rfl
 have f20:=hd.blk.f 20 _ rfl
 have hltb:=hd.lt
 obtain ⟨w1,hw1,hd1,hm1,hbX,hsz⟩:=mdo_pre hd hl0.out
 have hnw:=hcx.nds.next hd1.fro
 rw [hA] at hnw
 obtain ⟨vk,vn,vs,vx,vy,hv⟩:∃ vk vn vs vx vy,(nd l k).v=⟨vk,vn,vs,vx,vy⟩:=⟨_,_,_,_,_,rfl⟩
 obtain ⟨nd1,hnd⟩:∃ N,nd l k=N:=⟨_,rfl⟩
 have j0:w1.cell? ⟨B,O+k * 6,none⟩=some (.int .i64 o):=by
  have h:=hnw.cell hkl 0 _ rfl
  rw [ho] at h;exact h
 have j1:w1.cell? ⟨B,O+k * 6+1,none⟩=some (.int .i64 vk):=by
  have h:=hnw.cell hkl 1 _ rfl
  rw [hv] at h;exact h
 have j2:w1.cell? ⟨B,O+k * 6+2,none⟩=some (.int .i64 vn):=by
  have h:=hnw.cell hkl 2 _ rfl
  rw [hv] at h;exact h
 have j3:w1.cell? ⟨B,O+k * 6+3,none⟩=some (.string (tx vs)):=by
  have h:=hnw.cell hkl 3 _ rfl
  rw [hv] at h;exact h
 have j4:w1.cell? ⟨B,O+k * 6+4,none⟩=some (.int .i64 vx):=by
  have h:=hnw.cell hkl 4 _ rfl
  rw [hv] at h;exact h
 have j5:w1.cell? ⟨B,O+k * 6+5,none⟩=some (.int .i64 vy):=by
  have h:=hnw.cell hkl 5 _ rfl
  rw [hv] at h;exact h
 have hBl:B<w1.heap.size:=block_lt_of_cell j0
 have i0:w1.cell? ⟨b,0,none⟩=some (.slice (some ⟨B,O,none⟩) l.length c):=by rw [← hA];exact hd1.blk.c 0 _ rfl
 have HD1:=qq hd1;have HM1:=qq hm1;have HX1:=qq hbX;have HW1:=qq hw1;have HSZ:=qq hsz;have HG:=qq (gd_less hg);have HO:=qq ho;have HR:=qq hrn;have HV:=qq hv;have HK:=qq hkl
 clear hcx hd hg ho hrn hv hw1 hd1 hm1 hbX hsz hnw hnd hA
 go_enter Tryz.func61,Tryz.ntmps61
 go_upto_region 6 with fail
 rw [HW1.out]
 clear e21 e20 f20 HW1
 have hbN:=Box.makeM HD1.out hl0.out 46 [.int .i64 o,.int .i64 vk,.int .i64 vn,.string (tx vs),.int .i64 vx,.int .i64 vy]
 have hb:=box1 w1 (.cells #[.int .i64 o,.int .i64 vk,.int .i64 vn,.string (tx vs),.int .i64 vx,.int .i64 vy] 46)
 obtain ⟨w2,hw2⟩:∃ w2,w1.alloc (.cells #[.int .i64 o,.int .i64 vk,.int .i64 vn,.string (tx vs),.int .i64 vx,.int .i64 vy] 46)=w2:=⟨_,rfl⟩
 rw [show w1.alloc (.cells [.int .i64 o,.int .i64 vk,.int .i64 vn,.string (tx vs),.int .i64 vx,.int .i64 vy].toArray 46)=w2 from hw2] at hbN
 rw [hw2] at hb
 have HW2:=qq hw2;have HN2:=qq hbN
 clear hw2 hbN
 have HD2:=qq (HD1.out.old hb)
 have HM2:=qq (HM1.out.old hb)
 have HX2:=qq (HX1.out.old hb)
 clear hb HD1 HM1 HX1  
 have h0:(o == 0)=false:=by rw [beq_eq_false_iff_ne];omega
 have h1:(o == 1)=false:=by rw [beq_eq_false_iff_ne];omega
 have HRES:Hid (body (ev d) (nd l k) (l.drop (k+1)) S n=bnd (ev d (l.drop (k+1))) (fun v=>bnd (va (ev d) (pa o - 1) (nx (l.drop (k+1))) [v]) (ap o)) S n):=by
  show _=_
  unfold body
  rw [HO.out,if_neg (by omega),if_neg (by omega),if_neg (by omega),if_neg (by omega),if_neg (by omega),show pa o=(pa o - 1)+1 by omega,va_succ,bnd_assoc];rfl
 obtain ⟨hw1,hw2,hw3⟩:=wd_ne ho2 h11
 obtain ⟨W,hW⟩:∃ W,tx (wd o)=W:=⟨_,rfl⟩
 have HWD:=qq (word_any o);have HPT:=qq (rparts_any o)
 have HAP:=qq (fun (L cap n1:Nat) (S1:St) (ov1:Value) (w1:World) (ws:List Va) (q1:ws.length=pa o) (q2:AllR ws) (q3:S1.out.length≤64) (q4:Vs w1 L ws) (q5:Mac w0 A c E b l S1 n1 0 ov1 w1)=>mapply_any (cap:=cap) ho2 h11 q1 q2 q3 q4 q5 hl0.out)
 rw [hW] at HWD HAP hw1 hw2 hw3
 obtain ⟨iV,hi0,hi1,hi2,hi3⟩:=info_parts infoV
 have HI0:=qq hi0;have HI1:=qq hi1;have HI2:=qq hi2;have HI3:=qq hi3
 clear hi0 hi1 hi2 hi3 hW
 have qN0:=HN2.out.blk.c 0 _ rfl
 go_wp2_with fail
 rw [HW2.out]
 clear HW2 j0 j1 j2 j3 j4 j5 i0 hBl
 refine (HWD.out _).mono ?_
 rintro e w3 ⟨rfl,hb⟩
 have HD3:=qq (HD2.out.old hb)
 have HM3:=qq (HM2.out.old hb)
 have HX3:=qq (HX2.out.old hb)
 have HN3:=qq (HN2.out.old hb)
 clear hb HD2 HM2 HX2 HN2 qN0 
 have HCC:=qq (HC1.out S n ov w3 HD3.out HG.out)
 go_wp2_with fail
 refine (HCC.out).mono ?_
 rintro e w4 ⟨u,x,S1,n1,ov1,rfl,hans,hz,hd3,hm3⟩
 have HA:=qq hans;have HZ:=qq hz;have HD4:=qq hd3;have HM4:=qq (HM3.out.trans hm3);have HX4:=qq (HX3.out.mv hm3);have HN4:=qq (HN3.out.mv hm3)
 clear hans hz hd3 hm3 HD3 HM3 HX3 HN3  HCC HC1
 obtain ⟨XX,hXX⟩:∃ XX,ev d (l.drop (k+1)) S n=XX:=⟨_,rfl⟩
 have HXX:=qq hXX
 rw [hXX] at HA
 clear hXX
 have hbV:=Box.makeM HD4.out hl0.out 28 u
 have hb:=box1 w4 (.cells u 28)
 obtain ⟨w5,hw5⟩:∃ w5,w4.alloc (.cells u 28)=w5:=⟨_,rfl⟩
 rw [show w4.alloc (.cells u 28)=w5 from hw5] at hbV
 rw [hw5] at hb
 have HW5:=qq hw5;have HV5:=qq hbV
 clear hw5 hbV
 have HD5:=qq (HD4.out.old hb)
 have HM5:=qq (HM4.out.old hb)
 have HX5:=qq (HX4.out.old hb)
 have HN5:=qq (HN4.out.old hb)
 clear hb HD4 HM4 HX4 HN4  
 go_upto_region 22 with fail
 rw [HW5.out]
 clear HW5 
 have hltb5:=HD5.out.lt
 have m21:w5.cell? ⟨b,21,none⟩=some (.int .i64 x):=HD5.out.blk.c 21 _ rfl
 rcases HA.out.cases with ⟨hx0,hX⟩ | ⟨rfl,a,rfl,hX⟩
 · have HX0:=qq hx0
   have hx1:(x != 0)=true:=by simpa using hx0
   have HRE:Hid (body (ev d) (nd l k) (l.drop (k+1)) S n=.er x):=by show _=_;rw [HRES.out];exact bnd_er (by rw [HXX.out,hX])
   clear hx0 hX HA
   obtain ⟨cX0,cX1,cX2,cX3,cX4,zX0,zX1,zX2,zX3,zX4,hltX⟩:=HX5.out.five
   go_wp2_with fail
   refine mend (P:=bodyPost _ _ _ _ _) HD5.out HM5.out HX5.out (by omega) _ _ _ _ _ ?_
   clear HD5 HM5 HX5 HN5 HV5 m21 cX0 cX1 cX2 cX3 cX4 zX0 zX1 zX2 zX3 zX4
   intro w9 hd9 hm9 c0 c1 c2 c3 c4
   refine bodyPost_ret (v:=.agg zz) (by simp [results,Tryz.results61,go_sem,c0,c1,c2,c3,c4]) rfl ⟨vz,x,S1,n1,ov1,rfl,Ans.er HRE.out rfl HX0.out,fun _=>rfl,hd9,hm9⟩
 · have HU:Hid (ev d (l.drop (k+1)) S n=.ok u S1 n1):=by show _=_;rw [HXX.out,hX]
   obtain ⟨hu1,hg1⟩:=HGE.out S n u S1 n1 HG.out HU.out
   have HU1:=qq hu1;have HG1:=qq hg1
   clear hX HA hu1 hg1 HGE HXX
   have m1:w5.cell? ⟨b,1,none⟩=some (.slice (some ⟨E,0,none⟩) l.length l.length):=HD5.out.blk.c 1 _ rfl
   have b2:w5.cell? ⟨E,k+1,none⟩=some (.int .i64 (y1:Int)):=by have h:=HD5.out.beh (k+1) hk1;rw [HB1.out] at h;exact h
   have hlE:=HD5.out.ltE (by omega)
   obtain ⟨XB,hXB⟩:∃ XB,body (ev d) (nd l k) (l.drop (k+1)) S n=XB:=⟨_,rfl⟩
   have HXB:Hid (XB=bnd (va (ev d) (pa o - 1) (l.drop y1) [u]) (ap o) S1 n1):=by
    show _=_
    rw [← hXB,HRES.out,bnd_ok HU.out,HN1.out]
   have HXB0:=qq hXB
   clear hXB HRES HU HB1 HN1
   obtain ⟨qV0,qV1,qV2,qV3,qV4⟩:=ck5 HV5.out.blk
   have hlv:=Lv.made HD5.out hl0.out u
   have hbT:=box1 w5 (.cells u 28)
   go_wp2_with fail
   obtain ⟨w6,hw6⟩:∃ w6,w5.alloc (.cells u 28)=w6:=⟨_,rfl⟩
   rw [hw6] at hlv hbT ⊢
   have hX5:=HX5.out.blk.lt;have hN5:=HN5.out.blk.lt;have hV5:=HV5.out.blk.lt;have hsz1:w.heap.size<w1.heap.size:=by have:=HSZ.out;omega
   have HLv:=qq hlv;have HD6:=qq (HD5.out.old hbT);have HM6:=qq (HM5.out.old hbT);have HX6:=qq (HX5.out.old hbT);have HN6:=qq (HN5.out.old hbT)
   clear hlv hbT hw6 HD5 HM5 HX5 HN5 HV5 m21 m1 b2 hlE qV0 qV1 qV2 qV3 qV4
   go_loopw [14,15,16] (fun V P I wr=>∃ (j y n2 g cap:Nat) (acc:List Va) (S2:St) (ov2:Value),1≤j∧j≤pa o∧acc.length=j∧V=.slice (some ⟨g,0,none⟩) (j:Nat) cap∧P=.int .i64 (y:Int)∧I=.int .i64 (j:Int)∧y≤l.length∧XB=bnd (va (ev d) (pa o - j) (l.drop y) acc) (ap o) S2 n2∧it (ex d) (pa o - j) (l.drop y)=some r∧Gd S2 n2∧Mac w0 A c E b l S2 n2 0 ov2 wr∧Mv b ov w ov2 wr∧AllR acc∧Lv w0 b E ov2 g cap acc wr∧w1.heap.size<g∧Box w0 b E ov2 w.heap.size zz wr∧Box w0 b E ov2 w1.heap.size [.int .i64 o,.int .i64 vk,.int .i64 vn,.string (tx vs),.int .i64 vx,.int .i64 vy] wr) (fun _ _ I _=>pa o - (intOf I).toNat)
   case atStart=>exact ⟨1,y1,n1,w5.heap.size,1,[u],S1,ov1,Nat.le_refl _,hpa.1,rfl,rfl,rfl,rfl,hy1l,HXB.out,HX3.out,HG1.out,HD6.out,HM6.out,fun v hv=>by rw [List.mem_singleton.1 hv];exact HU1.out,HLv.out,by omega,HX6.out,HN6.out⟩
   case round =>
    clear HXB HX3 HG1 HD6 HM6 HLv HX6 HN6 HU1 HG
    obtain ⟨j,y,n2,g,cap,acc,S2,ov2,hj1,hj,ha,rfl,rfl,rfl,hy,hxx,hit,hg,hd,hm,hr,hlv,hgl,hx,hn⟩:=hrel
    have HA:=qq ha;have HXX:=qq hxx;have HIT:=qq hit;have HG:=qq hg;have HD7:=qq hd;have HM7:=qq hm;have HAR:=qq hr;have HL7:=qq hlv;have HX7:=qq hx;have HN7:=qq hn
    clear ha hxx hit hg hd hm hr hlv hx hn
    skip
    obtain ⟨w7,hw7⟩:∃ w,w=wr:=⟨_,rfl⟩
    subst hw7
    have qN0:=HN7.out.blk.c 0 _ rfl
    go_wp2_with fail
    refine (HPT.out _).mono ?_
    rintro e w8 ⟨rfl,hb⟩
    have HL8:=qq (HL7.out.old hb)
    have HD8:=qq (HD7.out.old hb)
    have HM8:=qq (HM7.out.old hb)
    have HX8:=qq (HX7.out.old hb)
    have HN8:=qq (HN7.out.old hb)
    clear hb HD7 HM7 HX7 HN7 qN0 HL7
    by_cases hlt:j<pa o
    · have hlt2:((j:Int)<((pa o:Nat):Int)):=by omega
      have hit2:=HIT.out
      rw [show pa o - j=(pa o - (j+1))+1 by omega,it_succ] at hit2
      obtain ⟨r2,e1,e2⟩:=Option.bind_eq_some_iff.1 hit2
      obtain ⟨g1,g2,g3⟩:=ex_drop_len e1 hy
      obtain ⟨y2,hy2⟩:∃ y2,l.length - r2.length=y2:=⟨_,rfl⟩
      rw [hy2] at g1 g2
      have hyl:y<l.length:=by omega
      have hy2l:y2≤l.length:=by omega
      have hxx:=HXX.out
      rw [show pa o - j=(pa o - (j+1))+1 by omega,va_succ,bnd_assoc,nx_of e1 (by omega)] at hxx
      rw [g1] at e2 hxx
      have HB2:Hid (l.length - (nx (l.drop y)).length=y2):=by show _=_;rw [nx_of e1 (by omega)];exact hy2
      have HE2:=qq e2;have HXY:=qq hxx
      have HCC:=qq (HH.out w0 A c E b l S2 n2 ov2 w8 y r2 HCX.out HD8.out HG.out e1 (by omega))
      have HGE2:=qq (fun v S3 n3 h=>ev_good d (by omega) _ _ e1 S2 n2 v S3 n3 HG.out h)
      clear hit2 e1 e2 g1 g2 g3 hy2 hxx HIT HXX HG
      go_wp2_with fail
      refine (HCC.out).mono ?_
      rintro e w9 ⟨v,x,S3,n3,ov3,rfl,hans,hz,hd3,hm3⟩
      have HAN:=qq hans;have HD9:=qq hd3;have HM9:=qq (HM8.out.trans hm3);have HX9:=qq (HX8.out.mv hm3);have HN9:=qq (HN8.out.mv hm3);have HL9:=qq (HL8.out.mv hm3)
      clear hans hz hd3 hm3 HCC HD8 HM8 HX8 HN8 HL8 
      have hlX:=HX9.out.blk.lt;have hlN:=HN9.out.blk.lt;have hlg:=HL9.out.lt
      have hown:=(HL9.out.old (box1 w9 (.cells v 28))).own
      rw [HA.out] at hown
      have HOWN:=qq hown
      clear hown
      go_wp2_with (at_builtin;refine wpList_append_lies _ rfl _ _ 121 rfl w0.heap.size 28 iV (.agg (vcl vz).toArray) 5 48 Tryz.underlying121 HI0.out HI1.out HI2.out HI3.out rfl (by decide) _ _ _ rfl HOWN.out ⟨w9.heap.size,0,none⟩ 1 1 (vcl v) rfl rfl (val_at w9 v _) (vcl_one v) (by decide) ?c3 ?c4 ?c5 (w9.heap.size+1) (World.size_alloc _ _) ?_)
      case c3=>unfold maxLen;omega
      case c4=>omega
      case c5=>rw [World.size_alloc];have h9:=HD9.out.fro.size;omega
      intro g2 cap2 w10 hown' hgrow hgg _
      clear HOWN
      have hgw:(w9.alloc (.cells v 28)).grownBy w10 (some g):=hgrow
      have hl10:=Lv.grown (HL9.out.old (box1 w9 (.cells v 28))) (HD9.out.old (box1 w9 (.cells v 28))) hl0.out (v:=v) (g2:=g2) (cap2:=cap2) (w':=w10) (by rw [HA.out];exact hown') (by rw [World.size_alloc];exact hgg)
      have hg2:w1.heap.size<g2:=by
       rcases hgg with h1 | h1
       · rw [← Option.some.inj h1];exact hgl
       · omega
      have HD10:=qq ((HD9.out.old (box1 w9 (.cells v 28))).grow hl0.out hgw HL9.out.lt.1 HL9.out.nb HL9.out.nE HL9.out.no)
      have HM10:=qq ((HM9.out.old (box1 w9 (.cells v 28))).grow hgw (show w.heap.size≤g by omega))
      have HX10:=qq ((HX9.out.old (box1 w9 (.cells v 28))).grow hgw (show w.heap.size ≠ g by omega))
      have HN10:=qq ((HN9.out.old (box1 w9 (.cells v 28))).grow hgw (show w1.heap.size ≠ g by omega))
      have HL10:=qq hl10
      clear hown' hgrow hgg hgw hl10 HD9 HM9 HX9 HN9 HL9 hlX hlN hlg
      have hltb10:=HD10.out.lt
      have m21:w10.cell? ⟨b,21,none⟩=some (.int .i64 x):=HD10.out.blk.c 21 _ rfl
      rcases HAN.out.cases with ⟨hx0,hX⟩ | ⟨rfl,a,rfl,hX⟩
      · have HX0:=qq hx0
        have hx1:(x != 0)=true:=by simpa using hx0
        have HRE:Hid (XB=.er x):=by show _=_;rw [HXY.out];exact bnd_er hX
        clear hx0 hX HAN
        obtain ⟨cX0,cX1,cX2,cX3,cX4,zX0,zX1,zX2,zX3,zX4,hltX⟩:=HX10.out.five
        go_wp2_with fail
        refine mend (P:=bodyPost _ _ _ _ _) HD10.out HM10.out HX10.out (by omega) _ _ _ _ _ ?_
        clear HD10 HM10 HX10 HN10 m21 cX0 cX1 cX2 cX3 cX4 zX0 zX1 zX2 zX3 zX4
        intro w9 hd9 hm9 c0 c1 c2 c3 c4
        refine bodyPost_ret (v:=.agg zz) (by simp [results,Tryz.results61,go_sem,c0,c1,c2,c3,c4]) rfl ⟨vz,x,S3,n3,ov3,rfl,Ans.er (by rw [HXB0.out];exact HRE.out) rfl HX0.out,fun _=>rfl,hd9,hm9⟩
      · have hgd:=HGE2.out v S3 n3 hX
        have HGD:=qq hgd;have HXZ:Hid (XB=bnd (va (ev d) (pa o - (j+1)) (l.drop y2) (acc++[v])) (ap o) S3 n3):=by show _=_;rw [HXY.out,bnd_ok hX]
        clear hX HAN HGE2 HXY hgd
        have m1:w10.cell? ⟨b,1,none⟩=some (.slice (some ⟨E,0,none⟩) l.length l.length):=HD10.out.blk.c 1 _ rfl
        have b2:w10.cell? ⟨E,y,none⟩=some (.int .i64 (y2:Int)):=by have h:=HD10.out.beh y hyl;rw [HB2.out] at h;exact h
        have hlE:=HD10.out.ltE (by omega)
        go_wp2_with fail
        go_roundw
        case rel=>exact ⟨j+1,y2,n3,g2,cap2,acc++[v],S3,ov3,by omega,by omega,by rw [List.length_append,HA.out];rfl,rfl,rfl,by go_num,hy2l,HXZ.out,HE2.out,HGD.out.2,HD10.out,HM10.out,HAR.out.snoc HGD.out.1,HL10.out,hg2,HX10.out,HN10.out⟩
        case measure=>simp [intOf];omega
    · have hlt2:¬ ((j:Int)<((pa o:Nat):Int)):=by omega
      have hje:j=pa o:=by omega
      have HXE:Hid (XB=ap o acc S2 n2):=by show _=_;rw [HXX.out,hje,Nat.sub_self];rfl
      have hac:=HAP.out g cap n2 S2 ov2 w8 acc (by rw [HA.out];exact hje) HAR.out HG.out.out HL8.out.toVs HD8.out
      rw [HA.out] at hac
      have HAC:=qq hac
      clear hac hje HXX HIT HG HAR
      go_wp2_with fail
      refine (HAC.out).mono ?_
      rintro e w9 ⟨v,x,S3,n3,ov3,rfl,hans,hz,hd3,hm3⟩
      have HAN:=qq hans;have HZ:=qq hz;have HD9:=qq hd3;have HM9:=qq (HM8.out.trans hm3);have HX9:=qq (HX8.out.mv hm3)
      clear hans hz hd3 hm3 HAC HD8 HM8 HX8 HN8 HL8 
      obtain ⟨cX0,cX1,cX2,cX3,cX4,zX0,zX1,zX2,zX3,zX4,hltX⟩:=HX9.out.five
      go_wp2_with fail
      refine mend (P:=bodyPost _ _ _ _ _) HD9.out HM9.out HX9.out (by omega) _ _ _ _ _ ?_
      clear HD9 HM9 HX9 cX0 cX1 cX2 cX3 cX4 zX0 zX1 zX2 zX3 zX4
      intro w9 hd9 hm9 c0 c1 c2 c3 c4
      refine bodyPost_ret (v:=.agg v) (by simp [results,Tryz.results61,go_sem,c0,c1,c2,c3,c4]) rfl ⟨v,x,S3,n3,ov3,rfl,by rw [HXB0.out,HXE.out];exact HAN.out,HZ.out,hd9,hm9⟩
end Go.Proofs.YtgakcpcpfkoaiaaGreatDoor.Ev
