/-
  A text of this claim: EvDeed6.
-/
import Derived.Test.YtgakcpcpfkoaiaaGreatDoorQ1
import Derived.Test.YtgakcpcpfkoaiaaGreatDoorQ7
import Derived.Test.YtgakcpcpfkoaiaaGreatDoorQ6
import Derived.Test.YtgakcpcpfkoaiaaGreatDoorQ5
set_option maxHeartbeats 2000000
set_option maxRecDepth 100000
namespace Go.Proofs.YtgakcpcpfkoaiaaGreatDoor.Ev
open Go.ChangeShapes Go.WideShapes Go.ChangeAt Go.RowKit Ov Va Ga Ex
def chs (f:List No→M Va) (r:List No) (l:List Va):M Va:=if (at0 l).n=0 then f (nx (nx r)) else f (nx r)
theorem chs_at (f:List No→M Va) (r:List No) (l:List Va) (S:St) (n:Nat):chs f r l S n=(if (at0 l).n=0 then f (nx (nx r)) else f (nx r)) S n:=rfl
theorem body_choose (f:List No→M Va) (n:No) (r:List No) (h:n.o=11):body f n r=bnd (prt f [0] r) (chs f r):=by
 unfold body
 rw [if_neg (by omega),if_neg (by omega),if_pos h,prt_one]
 congr 1
 funext a
 by_cases h0:a.k=0
 · have e:((0:Int) == -1 || a.k == 0)=true:=by simp [h0]
   rw [e,if_neg (fun e=>e h0)];rfl
 · have e:((0:Int) == -1 || a.k == 0)=false:=by simpa using h0
   rw [e,if_pos h0];rfl
theorem deed_value {d:Nat}:DeedC d 0 80:=by
 intro w0 A c E b l S n ov w k r hcx hd hg hkl ho hrn hx hd24
 obtain ⟨B,O,rfl⟩:=hcx.nds.shape (by omega)
 have hl:=hcx.len
 have hnw:=hcx.nds.next hd.fro
 have HBD:Hid (body (ev d) (nd l k) (l.drop (k+1)) S n=.ok (nd l k).v S n):=by show _=_;have ho2:(nd l k).o=0:=ho;unfold body;rw [if_pos ho2];rfl
 have e0:=hd.blk.c 0 _ rfl
 have e1:=hnw.cell hkl 1 _ rfl
 have e2:=hnw.cell hkl 2 _ rfl
 have e3:=hnw.cell hkl 3 _ rfl
 have e4:=hnw.cell hkl 4 _ rfl
 have e5:=hnw.cell hkl 5 _ rfl
 have hlt:=hd.blk.lt
 have hBl:B<w.heap.size:=block_lt_of_cell e1
 generalize (nd l k).v=v at *
 have hx9:Box w0 b E ov w.heap.size v (w.alloc (.cells v 28)):=Box.made hd (by omega) 28 v
 have hd9:=hd.old (box1 w (.cells v 28));have hm9:Mv b ov w ov (w.alloc (.cells v 28)):=Mv.of (box1 w _)
 have HD:=qq hd9;have HM:=qq hm9;have HX:=qq hx9;have HB:=qq HBD
 clear hcx hd hg ho hrn hx hd24 hnw hd9 hm9 hx9 HBD
 go_enter Tryz.func80,Tryz.ntmps80
 go_wp2_with fail
 have hd9:=HD.out;have hm9:=HM.out;have hx9:=HX.out
 clear HD HM HX
 generalize w.alloc (.cells v 28)=w9 at *
 have c0:=hx9.blk.c 0 _ rfl;have c1:=hx9.blk.c 1 _ rfl;have c2:=hx9.blk.c 2 _ rfl;have c3:=hx9.blk.c 3 _ rfl;have c4:=hx9.blk.c 4 _ rfl
 refine bodyPost_ret (v:=.tuple #[.agg v,.int .i64 0]) (by simp [results,Tryz.results80,go_sem,c0,c1,c2,c3,c4]) rfl ⟨v,0,S,n,ov,rfl,by rw [HB.out];exact Ans.ok rfl rfl,hd9,hm9⟩
def nmV (S:St) (j:Nat):Va:=if j=0 then tv S.key else if j=1 then S.val else if j=2 then S.acc else if j=3 then nv S.i else S.it
theorem nmd_at (S:St) (n:Nat) {j:Nat} (h:j<5):nmd (j:Int) S n=.ok (nmV S j) S n:=by
 match j,h with
 | 0,_=>rfl
 | 1,_=>rfl
 | 2,_=>rfl
 | 3,_=>rfl
 | 4,_=>rfl
theorem nm_cell {A:Option Addr} {c E b len n:Nat} {S:St} {ov:Value} {j:Nat} (h:j<5) (i:Nat) (hi:i<5):(dcs A c E b len S n ov)[32+j * 5+i]? = (vcl (nmV S j))[i]?:=by
 match j,h,i,hi with
 | 0,_,0,_=>rfl
 | 0,_,1,_=>rfl
 | 0,_,2,_=>rfl
 | 0,_,3,_=>rfl
 | 0,_,4,_=>rfl
 | 1,_,0,_=>rfl
 | 1,_,1,_=>rfl
 | 1,_,2,_=>rfl
 | 1,_,3,_=>rfl
 | 1,_,4,_=>rfl
 | 2,_,0,_=>rfl
 | 2,_,1,_=>rfl
 | 2,_,2,_=>rfl
 | 2,_,3,_=>rfl
 | 2,_,4,_=>rfl
 | 3,_,0,_=>rfl
 | 3,_,1,_=>rfl
 | 3,_,2,_=>rfl
 | 3,_,3,_=>rfl
 | 3,_,4,_=>rfl
 | 4,_,0,_=>rfl
 | 4,_,1,_=>rfl
 | 4,_,2,_=>rfl
 | 4,_,3,_=>rfl
 | 4,_,4,_=>rfl
theorem deed_name {d:Nat}:DeedC d 1 81:=by
 intro w0 A c E b l S n ov w k r hcx hd hg hkl ho hrn hx hd24
 obtain ⟨B,O,rfl⟩:=hcx.nds.shape (by omega)
 have hl:=hcx.len
 have hnw:=hcx.nds.next hd.fro
 obtain ⟨j,hj,hj5⟩:=name_in hrn (by omega)
 have HBD:Hid (body (ev d) (nd l k) (l.drop (k+1)) S n=.ok (nmV S j) S n):=by show _=_;have ho2:(nd l k).o=1:=ho;unfold body;rw [if_neg (by omega),if_pos ho2,hj];exact nmd_at S n hj5
 have e0:=hd.blk.c 0 _ rfl
 have e1:=hnw.cell hkl 2 _ rfl
 rw [hj] at e1
 have u0:=hd.blk.c (32+j * 5) _ (nm_cell hj5 0 (by decide))
 have u1:=hd.blk.c (32+j * 5+1) _ (nm_cell hj5 1 (by decide))
 have u2:=hd.blk.c (32+j * 5+2) _ (nm_cell hj5 2 (by decide))
 have u3:=hd.blk.c (32+j * 5+3) _ (nm_cell hj5 3 (by decide))
 have u4:=hd.blk.c (32+j * 5+4) _ (nm_cell hj5 4 (by decide))
 have hlt:=hd.blk.lt
 have hBl:B<w.heap.size:=block_lt_of_cell e1
 generalize nmV S j=v at *
 have hx9:=(show Box w0 b E ov w.heap.size v (w.alloc (.cells v 28)) from Box.made hd (by omega) 28 v).drew
 have hd9:=(hd.old (box1 w (.cells v 28))).drew;have hm9:=(show Mv b ov w ov (w.alloc (.cells v 28)) from Mv.of (box1 w _)).old (Below.refl _ _).drew
 have HD:=qq hd9;have HM:=qq hm9;have HX:=qq hx9;have HB:=qq HBD
 clear hcx hd hg ho hrn hx hd24 hnw hd9 hm9 hx9 HBD
 go_enter Tryz.func81,Tryz.ntmps81
 go_wp2_with fail
 go_region
 go_wp2_with fail
 have hd9:=HD.out;have hm9:=HM.out;have hx9:=HX.out
 clear HD HM HX
 generalize (w.alloc (.cells v 28)).drew=w9 at *
 have c0:=hx9.blk.c 0 _ rfl;have c1:=hx9.blk.c 1 _ rfl;have c2:=hx9.blk.c 2 _ rfl;have c3:=hx9.blk.c 3 _ rfl;have c4:=hx9.blk.c 4 _ rfl
 refine bodyPost_ret (v:=.tuple #[.agg v,.int .i64 0]) (by simp [results,Tryz.results81,go_sem,c0,c1,c2,c3,c4]) rfl ⟨v,0,S,n,ov,rfl,by rw [HB.out];exact Ans.ok rfl rfl,hd9,hm9⟩
theorem deed_choose {d:Nat} (HD:DoC (ev d) d):DeedC d 11 91:=by
 intro w0 A c E b l S n ov w k r hcx hd hg hkl ho hrn hx hd24
 have HBD:Hid (body (ev d) (nd l k) (l.drop (k+1)) S n=bnd (prt (ev d) [0] (l.drop (k+1))) (chs (ev d) (l.drop (k+1))) S n):=by show _=_;exact congrFun (congrFun (body_choose _ _ _ ho) S) n
 have HP:=qq (pre_any HD [0] (by decide) (by decide) (by decide) hcx hd hg hkl hx (by decide) hd24)
 have hx3:=hx
 change it (ex d) 3 (l.drop (k+1))=some r at hx3
 rw [it_succ] at hx3
 obtain ⟨r1,x1,hx3⟩:=Option.bind_eq_some_iff.1 hx3
 rw [it_succ] at hx3
 obtain ⟨r2,x2,hx3⟩:=Option.bind_eq_some_iff.1 hx3
 rw [it_succ] at hx3
 obtain ⟨r3,x3,hx3⟩:=Option.bind_eq_some_iff.1 hx3
 obtain ⟨g1,g2,g3⟩:=ex_drop_len x1 (by omega)
 obtain ⟨y1,hy1⟩:∃ y1,l.length - r1.length=y1:=⟨_,rfl⟩
 rw [hy1] at g1 g2
 rw [g1] at x2
 obtain ⟨g4,g5,g6⟩:=ex_drop_len x2 (by omega)
 obtain ⟨y2,hy2⟩:∃ y2,l.length - r2.length=y2:=⟨_,rfl⟩
 rw [hy2] at g4 g5
 rw [g4] at x3
 obtain ⟨g7,g8,g9⟩:=ex_drop_len x3 (by omega)
 have hl:=hcx.len
 have HB1:Hid (l.length - (nx (l.drop (k+1))).length=y1):=by show _=_;rw [nx_of x1 (by omega)];exact hy1
 have HB2:Hid (l.length - (nx (l.drop y1)).length=y2):=by show _=_;rw [nx_of x2 (by omega)];exact hy2
 have HN1:Hid (nx (l.drop (k+1))=l.drop y1):=by show _=_;rw [nx_of x1 (by omega)];exact g1
 have HN2:Hid (nx (l.drop y1)=l.drop y2):=by show _=_;rw [nx_of x2 (by omega)];exact g4
 have HC1:=qq (fun S1 n1 ov1 w3 hd3 hg3=>HD w0 A c E b l S1 n1 ov1 w3 y1 r2 hcx hd3 hg3 x2 (by omega))
 have HC2:=qq (fun S1 n1 ov1 w3 hd3 hg3=>HD w0 A c E b l S1 n1 ov1 w3 y2 r3 hcx hd3 hg3 x3 (by omega))
 have hk1:k+1<l.length:=by omega
 have hy1l:y1<l.length:=by omega
 have hy2l:y2<l.length:=by omega
 clear hx3 x1 x2 x3 g1 g2 g3 g4 g5 g6 g7 g8 g9 hy1 hy2
 clear hcx hd hg ho hrn hx hd24 HD
 go_enter Tryz.func91,Tryz.ntmps91
 go_wp2_with fail
 refine (HP.out).mono ?_
 rintro e w3 ⟨p0,p1,p2,x,S1,n1,ov1,rfl,ha,r0,r1,r2,hgd,hd3,hm3,hx3⟩
 have HA:=qq ha;have R0:=qq r0;have R1:=qq r1;have R2:=qq r2;have HG:=qq hgd;have HD3:=qq hd3;have HM3:=qq hm3;have HX3:=qq hx3
 have hlZ:=hx3.blk.lt
 clear ha r0 r1 r2 hgd hd3 hm3 hx3 HP
 rcases HA.out.cases with ⟨hx0,hX⟩ | ⟨rfl,a,ha,hX⟩
 · have HX0:=qq hx0;have HXX:=qq hX
   have hx1:(x == 0)=false:=by simpa using hx0
   have hx2:(x != 0)=true:=by simpa using hx0
   clear hx0 hX HA
   obtain ⟨cX0,cX1,cX2,cX3,cX4,zX0,zX1,zX2,zX3,zX4,hltX⟩:=HX3.out.fiv
   go_wp2_with fail
   refine denda (P:=bodyPost _ _ _ _ _) HD3.out HM3.out HX3.out (by omega) _ _ _ _ _ ?_
   clear cX0 cX1 cX2 cX3 cX4 zX0 zX1 zX2 zX3 zX4 HD3 HM3 HX3 
   intro w9 hd9 hm9 cX0 cX1 cX2 cX3 cX4
   refine bodyPost_ret (v:=.tuple #[.agg zz,.int .i64 x]) (by simp [results,Tryz.results91,go_sem,cX0,cX1,cX2,cX3,cX4]) rfl ⟨vz,x,S1,n1,ov1,rfl,by rw [HBD.out];exact Ans.er (bnd_er HXX.out) rfl HX0.out,hd9,hm9⟩
 · have HXX:=qq hX;have HAA:=qq ha;have HGD:=qq (HG.out rfl)
   clear hX ha HA HG
   have HS:=qq (second_any _ k (HD3.out.old (box1 w3 (.cells #[.int .i64 p0.k,.int .i64 p0.n,.string (tx p0.s),.int .i64 p0.x,.int .i64 p0.y,.int .i64 p1.k,.int .i64 p1.n,.string (tx p1.s),.int .i64 p1.x,.int .i64 p1.y,.int .i64 p2.k,.int .i64 p2.n,.string (tx p2.s),.int .i64 p2.x,.int .i64 p2.y] 137))) hk1 hl)
   rw [HB1.out] at HS
   go_wp2_with fail
   refine (HS.out).mono ?_
   rintro e w4 ⟨rfl,hb⟩
   have HD4:=qq ((HD3.out.old (box1 _ (.cells #[.int .i64 p0.k,.int .i64 p0.n,.string (tx p0.s),.int .i64 p0.x,.int .i64 p0.y,.int .i64 p1.k,.int .i64 p1.n,.string (tx p1.s),.int .i64 p1.x,.int .i64 p1.y,.int .i64 p2.k,.int .i64 p2.n,.string (tx p2.s),.int .i64 p2.x,.int .i64 p2.y] 137))).old hb)
   have HM4:=qq ((HM3.out.old (box1 _ (.cells #[.int .i64 p0.k,.int .i64 p0.n,.string (tx p0.s),.int .i64 p0.x,.int .i64 p0.y,.int .i64 p1.k,.int .i64 p1.n,.string (tx p1.s),.int .i64 p1.x,.int .i64 p1.y,.int .i64 p2.k,.int .i64 p2.n,.string (tx p2.s),.int .i64 p2.x,.int .i64 p2.y] 137))).old hb)
   have HX4:=qq ((HX3.out.old (box1 _ (.cells #[.int .i64 p0.k,.int .i64 p0.n,.string (tx p0.s),.int .i64 p0.x,.int .i64 p0.y,.int .i64 p1.k,.int .i64 p1.n,.string (tx p1.s),.int .i64 p1.x,.int .i64 p1.y,.int .i64 p2.k,.int .i64 p2.n,.string (tx p2.s),.int .i64 p2.x,.int .i64 p2.y] 137))).old hb)
   have HP4:Hid (Box w0 b E ov1 (w3.heap.size) [.int .i64 p0.k,.int .i64 p0.n,.string (tx p0.s),.int .i64 p0.x,.int .i64 p0.y,.int .i64 p1.k,.int .i64 p1.n,.string (tx p1.s),.int .i64 p1.x,.int .i64 p1.y,.int .i64 p2.k,.int .i64 p2.n,.string (tx p2.s),.int .i64 p2.x,.int .i64 p2.y] w4):=by
    have h:=Box.made HD3.out (by omega) 137 [.int .i64 p0.k,.int .i64 p0.n,.string (tx p0.s),.int .i64 p0.x,.int .i64 p0.y,.int .i64 p1.k,.int .i64 p1.n,.string (tx p1.s),.int .i64 p1.x,.int .i64 p1.y,.int .i64 p2.k,.int .i64 p2.n,.string (tx p2.s),.int .i64 p2.x,.int .i64 p2.y]
    exact (h).old hb
   clear hb HD3 HM3 HX3  HS
   have qP1:=HP4.out.blk.c 1 _ rfl
   have hlZ4:=HX4.out.blk.lt;have hlb:=HD4.out.blk.lt
   have b1:=HD4.out.blk.c 1 _ rfl
   have b2:=HD4.out.beh y1 hy1l
   rw [HB2.out] at b2
   by_cases h0:p0.n=0
   · have h1:(p0.n == 0)=true:=by simpa using h0
     have H0:=qq h0;clear h0
     have HCC:=qq (HC2.out S1 n1 ov1 w4 HD4.out HGD.out)
     go_wp2_with fail
     refine HCC.out.mono ?_
     rintro e w5 ⟨v,x,S2,n2,ov2,rfl,ha5,hd5,hm5⟩
     have HA5:=qq ha5;have HD5:=qq hd5;have HM5:=qq (HM4.out.trans hm5);have HX5:=qq (HX4.out.mv hm5)
     clear ha5 hd5 hm5 HD4 HM4 HX4 HP4 b1 b2 HCC qP1
     obtain ⟨cX0,cX1,cX2,cX3,cX4,zX0,zX1,zX2,zX3,zX4,hltX⟩:=HX5.out.fiv
     go_wp2_with fail
     refine dend0 (P:=bodyPost _ _ _ _ _) HD5.out HM5.out HX5.out (by omega) _ _ _ _ _ ?_
     clear cX0 cX1 cX2 cX3 cX4 zX0 zX1 zX2 zX3 zX4 HD5 HM5 HX5 
     intro w9 hd9 hm9 cX0 cX1 cX2 cX3 cX4
     refine bodyPost_ret (v:=.tuple #[.agg v,.int .i64 x]) (by simp [results,Tryz.results91,go_sem,cX0,cX1,cX2,cX3,cX4]) rfl ⟨v,x,S2,n2,ov2,rfl,by rw [HBD.out,bnd_ok HXX.out,chs_at,HN1.out,HN2.out];obtain ⟨rfl,rfl,rfl⟩:=HAA.out;rw [if_pos H0.out];exact HA5.out,hd9,hm9⟩
   · have h1:(p0.n == 0)=false:=by simpa using h0
     have H0:=qq h0;clear h0
     have HCC:=qq (HC1.out S1 n1 ov1 w4 HD4.out HGD.out)
     go_wp2_with fail
     refine HCC.out.mono ?_
     rintro e w5 ⟨v,x,S2,n2,ov2,rfl,ha5,hd5,hm5⟩
     have HA5:=qq ha5;have HD5:=qq hd5;have HM5:=qq (HM4.out.trans hm5);have HX5:=qq (HX4.out.mv hm5)
     clear ha5 hd5 hm5 HD4 HM4 HX4 HP4 b1 b2 HCC qP1
     obtain ⟨cX0,cX1,cX2,cX3,cX4,zX0,zX1,zX2,zX3,zX4,hltX⟩:=HX5.out.fiv
     go_wp2_with fail
     refine dend0 (P:=bodyPost _ _ _ _ _) HD5.out HM5.out HX5.out (by omega) _ _ _ _ _ ?_
     clear cX0 cX1 cX2 cX3 cX4 zX0 zX1 zX2 zX3 zX4 HD5 HM5 HX5 
     intro w9 hd9 hm9 cX0 cX1 cX2 cX3 cX4
     refine bodyPost_ret (v:=.tuple #[.agg v,.int .i64 x]) (by simp [results,Tryz.results91,go_sem,cX0,cX1,cX2,cX3,cX4]) rfl ⟨v,x,S2,n2,ov2,rfl,by rw [HBD.out,bnd_ok HXX.out,chs_at,HN1.out];obtain ⟨rfl,rfl,rfl⟩:=HAA.out;rw [if_neg H0.out];exact HA5.out,hd9,hm9⟩
end Go.Proofs.YtgakcpcpfkoaiaaGreatDoor.Ev
