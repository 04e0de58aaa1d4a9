/-
  A text of this claim: EvDeed2.
-/
import Derived.Test.YtgakcpcpfkoaiaaGreatDoorQ1
import Derived.Test.YtgakcpcpfkoaiaaGreatDoorQEvDeed1
set_option maxHeartbeats 1000000
set_option maxRecDepth 100000
namespace Go.Proofs.YtgakcpcpfkoaiaaGreatDoor.Ev
open Go.ChangeShapes Go.WideShapes Go.ChangeAt Go.RowKit Ov Va Ga Ex
theorem cat_big {l:List Va} (h:4096<(at0 l).s.length+(at1 l).s.length) (S:St) (n:Nat):af 14 l S n=.er 3:=by
 show lift (if 4096<(at0 l).s.length+(at1 l).s.length then .inl 3 else .inr (tv ((at0 l).s++(at1 l).s))) S n=_
 rw [if_pos h];rfl
theorem cat_ok {l:List Va} (h:¬ 4096<(at0 l).s.length+(at1 l).s.length) (S:St) (n:Nat):af 14 l S n=.ok (tv ((at0 l).s++(at1 l).s)) S n:=by
 show lift (if 4096<(at0 l).s.length+(at1 l).s.length then .inl 3 else .inr (tv ((at0 l).s++(at1 l).s))) S n=_
 rw [if_neg h];rfl
theorem ifv_er {k n x y e:Int} {s:ByteArray} (h:e ≠ 0):ifv k n s x y e=.tuple #[.agg zz,.int .i64 e]:=if_neg h
theorem ifv_ok {k n x y:Int} {s:ByteArray} (h:rt ⟨k,n,s.data.toList,x,y⟩=true):ifv k n s x y 0=.tuple #[.agg #[.int .i64 k,.int .i64 n,.string s,.int .i64 x,.int .i64 y],.int .i64 0]:=by unfold ifv;rw [if_pos rfl,if_pos h]
theorem ifv_no {k n x y:Int} {s:ByteArray} (h:rt ⟨k,n,s.data.toList,x,y⟩=false):ifv k n s x y 0=.tuple #[.agg zz,.int .i64 14]:=by unfold ifv;rw [if_pos rfl,if_neg (by rw [h];decide)]
theorem chk_ok {l:List Va} (h:rt (pv (at0 l).n (at1 l).n)=true) (S:St) (n:Nat):af 21 l S n=.ok (pv (at0 l).n (at1 l).n) S n:=by
 show lift (if rt (pv (at0 l).n (at1 l).n)=true then .inr (pv (at0 l).n (at1 l).n) else .inl 14) S n=_
 rw [if_pos h];rfl
theorem chk_no {l:List Va} (h:rt (pv (at0 l).n (at1 l).n)=false) (S:St) (n:Nat):af 21 l S n=.er 14:=by
 show lift (if rt (pv (at0 l).n (at1 l).n)=true then .inr (pv (at0 l).n (at1 l).n) else .inl 14) S n=_
 rw [if_neg (by rw [h];decide)];rfl
theorem neg_int {l:List Va} (h:(at0 l).k=0) (S:St) (n:Nat):af 7 l S n=.ok (nv (-(at0 l).n)) S n:=by
 show lift (if (at0 l).k=0 then .inr (nv (-(at0 l).n)) else if (at0 l).k=2 then .inr (pv (-(at0 l).x) (-(at0 l).y)) else .inl 13) S n=_
 rw [if_pos h];rfl
theorem neg_point {l:List Va} (h:(at0 l).k=2) (S:St) (n:Nat):af 7 l S n=.ok (pv (-(at0 l).x) (-(at0 l).y)) S n:=by
 show lift (if (at0 l).k=0 then .inr (nv (-(at0 l).n)) else if (at0 l).k=2 then .inr (pv (-(at0 l).x) (-(at0 l).y)) else .inl 13) S n=_
 rw [if_neg (by omega),if_pos h];rfl
theorem neg_no {l:List Va} (h:(at0 l).k ≠ 0) (h2:(at0 l).k ≠ 2) (S:St) (n:Nat):af 7 l S n=.er 13:=by
 show lift (if (at0 l).k=0 then .inr (nv (-(at0 l).n)) else if (at0 l).k=2 then .inr (pv (-(at0 l).x) (-(at0 l).y)) else .inl 13) S n=_
 rw [if_neg h,if_neg h2];rfl
theorem sub_right {x y:Int} (h1:-16777216≤x) (h2:x≤16777216) (h3:-16777216≤y) (h4:y≤16777216):ans (rb ⟨0,0⟩ && rb ⟨x,y⟩ && rb (Pt.sub ⟨0,0⟩ ⟨x,y⟩)) (Pt.sub ⟨0,0⟩ ⟨x,y⟩)=.tuple #[.agg #[.int .i64 (-x),.int .i64 (-y)],.int .i64 0]:=by
 have e:Pt.sub ⟨0,0⟩ ⟨x,y⟩=⟨-x,-y⟩:=Pt.ext (by show 0 - x=-x;omega) (by show 0 - y=-y;omega)
 rw [e,show rb ⟨0,0⟩=true from rfl,rb_of (a:=⟨x,y⟩) (by dsimp only;omega),rb_of (a:=⟨-x,-y⟩) (by dsimp only;omega)];rfl
theorem deed_cat {d:Nat} (HD:DoC (ev d) d):DeedC d 14 94:=by
 intro w0 A c E b l S n ov w k r hcx hd hg hkl ho hrn hx hd24
 have HBD:Hid (body (ev d) (nd l k) (l.drop (k+1)) S n=bnd (prt (ev d) [1,1] (l.drop (k+1))) (af 14) S n):=by show _=_;exact congrFun (congrFun (body_prt ho (by decide) (by decide) (by decide) (by decide) (by decide) (by decide)) S) n
 have HP:=qq (pre_any HD [1,1] (by decide) (by decide) (by decide) hcx hd hg hkl hx (by decide) hd24)
 clear hcx hd hg ho hrn hx hd24 HD
 go_enter Tryz.func94,Tryz.ntmps94
 go_wp2_with fail
 refine (HP.out).mono ?_
 rintro e w3 ⟨p0,p1,p2,x,S1,n1,ov1,rfl,ha,r0,r1,r2,hgd,hd3,hm3,hx3⟩
 have HA:=qq ha;have R0:=qq r0;have R1:=qq r1;have R2:=qq r2;have HG:=qq hgd;have HD3:=qq hd3;have HM3:=qq hm3;have HX3:=qq hx3
 have HPB:Hid (Box w0 b E ov1 w3.heap.size [.int .i64 p0.k,.int .i64 p0.n,.string (tx p0.s),.int .i64 p0.x,.int .i64 p0.y,.int .i64 p1.k,.int .i64 p1.n,.string (tx p1.s),.int .i64 p1.x,.int .i64 p1.y,.int .i64 p2.k,.int .i64 p2.n,.string (tx p2.s),.int .i64 p2.x,.int .i64 p2.y] (w3.alloc (.cells #[.int .i64 p0.k,.int .i64 p0.n,.string (tx p0.s),.int .i64 p0.x,.int .i64 p0.y,.int .i64 p1.k,.int .i64 p1.n,.string (tx p1.s),.int .i64 p1.x,.int .i64 p1.y,.int .i64 p2.k,.int .i64 p2.n,.string (tx p2.s),.int .i64 p2.x,.int .i64 p2.y] 137))):=Box.made hd3 (by omega) 137 [.int .i64 p0.k,.int .i64 p0.n,.string (tx p0.s),.int .i64 p0.x,.int .i64 p0.y,.int .i64 p1.k,.int .i64 p1.n,.string (tx p1.s),.int .i64 p1.x,.int .i64 p1.y,.int .i64 p2.k,.int .i64 p2.n,.string (tx p2.s),.int .i64 p2.x,.int .i64 p2.y]
 have hlZ:=hx3.blk.lt
 clear ha r0 r1 r2 hgd hd3 hm3 hx3 HP
 rcases HA.out.cases with ⟨hx0,hX⟩ | ⟨rfl,a,ha,hX⟩
 · have HX0:=qq hx0;have HXX:=qq hX
   have hx1:(x == 0)=false:=by simpa using hx0
   have hx2:(x != 0)=true:=by simpa using hx0
   clear hx0 hX HA 
   obtain ⟨c0,c1,c2,c3,c4,z0,z1,z2,z3,z4,hltX9⟩:=HX3.out.fiv
   go_wp2_with fail
   refine denda (P:=bodyPost _ _ _ _ _) HD3.out HM3.out HX3.out (Nat.le_refl _) _ _ _ _ _ ?_
   clear hltX9 c0 c1 c2 c3 c4 z0 z1 z2 z3 z4 HD3 HM3 HX3
   intro w9 hd9 hm9 c0 c1 c2 c3 c4
   refine bodyPost_ret (v:=.tuple #[.agg zz,.int .i64 x]) (by simp [results,Tryz.results94,go_sem,c0,c1,c2,c3,c4]) rfl ⟨vz,x,S1,n1,ov1,rfl,by rw [HBD.out];exact Ans.er (bnd_er HXX.out) rfl HX0.out,hd9,hm9⟩
 · have HXX:=qq hX;have HAA:=qq ha;have HGD:=qq (HG.out rfl)
   clear hX ha HA HG
   have h0:=(rt_all R0.out).2.1;have h1:=(rt_all R1.out).2.1
   rw [← tx_size] at h0 h1
   by_cases hbig:4096<p0.s.length+p1.s.length
   · have hbig2:4096<(tx p0.s).size+(tx p1.s).size:=by rw [tx_size,tx_size];exact hbig
     have HBIG:=qq hbig;clear hbig
     obtain ⟨c0,c1,c2,c3,c4,z0,z1,z2,z3,z4,hltX9⟩:=HX3.out.fiv
     go_wp2_with fail
     refine denda (P:=bodyPost _ _ _ _ _) HD3.out HM3.out HX3.out (Nat.le_refl _) _ _ _ _ _ ?_
     clear hltX9 c0 c1 c2 c3 c4 z0 z1 z2 z3 z4 HD3 HM3 HX3
     intro w9 hd9 hm9 c0 c1 c2 c3 c4
     refine bodyPost_ret (v:=.tuple #[.agg zz,.int .i64 3]) (by simp [results,Tryz.results94,go_sem,c0,c1,c2,c3,c4]) rfl ⟨vz,3,S1,n1,ov1,rfl,by rw [HBD.out];obtain ⟨rfl,rfl,rfl⟩:=HAA.out;exact Ans.er (by rw [bnd_ok HXX.out];exact cat_big HBIG.out _ _) rfl (by decide),hd9,hm9⟩
   · have hbig2:(tx p0.s).size+(tx p1.s).size≤4096:=by rw [tx_size,tx_size];omega
     have HBIG:=qq hbig;clear hbig
     have hcat:¬ (tx p0.s).size+(tx p1.s).size > 9223372036854775807:=by omega
     go_wp2_with fail
     refine (etext_any _ _).mono ?_
     rintro e w4 ⟨rfl,hb⟩
     have HD4:=qq ((HD3.out.old (box1 w3 _)).old hb);have HM4:=qq ((HM3.out.old (box1 w3 _)).old hb);have HX4:=qq ((HX3.out.old (box1 w3 _)).old hb);have HPB4:=qq (HPB.out.old hb)
     clear hcat hbig2
     clear hb HD3 HM3 HX3 HPB 
     obtain ⟨c0,c1,c2,c3,c4,z0,z1,z2,z3,z4,hltX9⟩:=HX4.out.fiv
     go_wp2_with fail
     refine dend0 (P:=bodyPost _ _ _ _ _) HD4.out HM4.out HX4.out (Nat.le_refl _) _ _ _ _ _ ?_
     clear hltX9 c0 c1 c2 c3 c4 z0 z1 z2 z3 z4 HD4 HM4 HX4
     intro w9 hd9 hm9 c0 c1 c2 c3 c4
     refine bodyPost_ret (v:=.tuple #[.agg #[.int .i64 1,.int .i64 0,.string (tx p0.s++tx p1.s),.int .i64 0,.int .i64 0],.int .i64 0]) (by simp [results,Tryz.results94,go_sem,c0,c1,c2,c3,c4]) rfl ⟨tv (p0.s++p1.s),0,S1,n1,ov1,by rw [tx_append];rfl,by rw [HBD.out];obtain ⟨rfl,rfl,rfl⟩:=HAA.out;exact Ans.ok (by rw [bnd_ok HXX.out];exact cat_ok HBIG.out _ _) rfl,hd9,hm9⟩
theorem deed_norm {d:Nat} (HD:DoC (ev d) d):DeedC d 24 104:=by
 intro w0 A c E b l S n ov w k r hcx hd hg hkl ho hrn hx hd24
 have HBD:Hid (body (ev d) (nd l k) (l.drop (k+1)) S n=bnd (prt (ev d) [2] (l.drop (k+1))) (af 24) S n):=by show _=_;exact congrFun (congrFun (body_prt ho (by decide) (by decide) (by decide) (by decide) (by decide) (by decide)) S) n
 have HP:=qq (pre_any HD [2] (by decide) (by decide) (by decide) hcx hd hg hkl hx (by decide) hd24)
 clear hcx hd hg ho hrn hx hd24 HD
 go_enter Tryz.func104,Tryz.ntmps104
 go_wp2_with fail
 refine (HP.out).mono ?_
 rintro e w3 ⟨p0,p1,p2,x,S1,n1,ov1,rfl,ha,r0,r1,r2,hgd,hd3,hm3,hx3⟩
 have HA:=qq ha;have R0:=qq r0;have R1:=qq r1;have R2:=qq r2;have HG:=qq hgd;have HD3:=qq hd3;have HM3:=qq hm3;have HX3:=qq hx3
 have HPB:Hid (Box w0 b E ov1 w3.heap.size [.int .i64 p0.k,.int .i64 p0.n,.string (tx p0.s),.int .i64 p0.x,.int .i64 p0.y,.int .i64 p1.k,.int .i64 p1.n,.string (tx p1.s),.int .i64 p1.x,.int .i64 p1.y,.int .i64 p2.k,.int .i64 p2.n,.string (tx p2.s),.int .i64 p2.x,.int .i64 p2.y] (w3.alloc (.cells #[.int .i64 p0.k,.int .i64 p0.n,.string (tx p0.s),.int .i64 p0.x,.int .i64 p0.y,.int .i64 p1.k,.int .i64 p1.n,.string (tx p1.s),.int .i64 p1.x,.int .i64 p1.y,.int .i64 p2.k,.int .i64 p2.n,.string (tx p2.s),.int .i64 p2.x,.int .i64 p2.y] 137))):=Box.made hd3 (by omega) 137 [.int .i64 p0.k,.int .i64 p0.n,.string (tx p0.s),.int .i64 p0.x,.int .i64 p0.y,.int .i64 p1.k,.int .i64 p1.n,.string (tx p1.s),.int .i64 p1.x,.int .i64 p1.y,.int .i64 p2.k,.int .i64 p2.n,.string (tx p2.s),.int .i64 p2.x,.int .i64 p2.y]
 have hlZ:=hx3.blk.lt
 clear ha r0 r1 r2 hgd hd3 hm3 hx3 HP
 rcases HA.out.cases with ⟨hx0,hX⟩ | ⟨rfl,a,ha,hX⟩
 · have HX0:=qq hx0;have HXX:=qq hX
   have hx1:(x == 0)=false:=by simpa using hx0
   have hx2:(x != 0)=true:=by simpa using hx0
   clear hx0 hX HA 
   obtain ⟨c0,c1,c2,c3,c4,z0,z1,z2,z3,z4,hltX9⟩:=HX3.out.fiv
   go_wp2_with fail
   refine denda (P:=bodyPost _ _ _ _ _) HD3.out HM3.out HX3.out (Nat.le_refl _) _ _ _ _ _ ?_
   clear hltX9 c0 c1 c2 c3 c4 z0 z1 z2 z3 z4 HD3 HM3 HX3
   intro w9 hd9 hm9 c0 c1 c2 c3 c4
   refine bodyPost_ret (v:=.tuple #[.agg zz,.int .i64 x]) (by simp [results,Tryz.results104,go_sem,c0,c1,c2,c3,c4]) rfl ⟨vz,x,S1,n1,ov1,rfl,by rw [HBD.out];exact Ans.er (bnd_er HXX.out) rfl HX0.out,hd9,hm9⟩
 · have HXX:=qq hX;have HAA:=qq ha;have HGD:=qq (HG.out rfl)
   clear hX ha HA HG
   have HN:=qq (norm_yes (rt_all R0.out).2.2.1)
   unfold pt at HN
   go_wp2_with fail
   refine (HN.out _).mono ?_
   rintro e w4 ⟨rfl,hb⟩
   have HD4:=qq ((HD3.out.old (box1 w3 _)).old hb);have HM4:=qq ((HM3.out.old (box1 w3 _)).old hb);have HX4:=qq ((HX3.out.old (box1 w3 _)).old hb);have HPB4:=qq (HPB.out.old hb)
   clear hb HD3 HM3 HX3 HPB 
   obtain ⟨c0,c1,c2,c3,c4,z0,z1,z2,z3,z4,hltX9⟩:=HX4.out.fiv
   go_wp2_with fail
   refine (enumber_any _ _).mono ?_
   rintro e w5 ⟨rfl,hb⟩
   have HD5:=qq (HD4.out.old hb);have HM5:=qq (HM4.out.old hb);have HX5:=qq (HX4.out.old hb);have HPB5:=qq (HPB4.out.old hb)
   clear hb HD4 HM4 HX4 HPB4 hltX9 c0 c1 c2 c3 c4 z0 z1 z2 z3 z4
   obtain ⟨c0,c1,c2,c3,c4,z0,z1,z2,z3,z4,hltX9⟩:=HX5.out.fiv
   go_wp2_with fail
   refine dend0 (P:=bodyPost _ _ _ _ _) HD5.out HM5.out HX5.out (Nat.le_refl _) _ _ _ _ _ ?_
   clear hltX9 c0 c1 c2 c3 c4 z0 z1 z2 z3 z4 HD5 HM5 HX5
   intro w9 hd9 hm9 c0 c1 c2 c3 c4
   refine bodyPost_ret (v:=.tuple #[.agg #[.int .i64 0,.int .i64 (p0.x * p0.x+p0.y * p0.y),.string ⟨#[]⟩,.int .i64 0,.int .i64 0],.int .i64 0]) (by simp [results,Tryz.results104,go_sem,c0,c1,c2,c3,c4]) rfl ⟨nv (p0.x * p0.x+p0.y * p0.y),0,S1,n1,ov1,rfl,by rw [HBD.out];obtain ⟨rfl,rfl,rfl⟩:=HAA.out;exact Ans.ok (by rw [bnd_ok HXX.out];rfl) rfl,hd9,hm9⟩
theorem deed_conj {d:Nat} (HD:DoC (ev d) d):DeedC d 25 105:=by
 intro w0 A c E b l S n ov w k r hcx hd hg hkl ho hrn hx hd24
 have HBD:Hid (body (ev d) (nd l k) (l.drop (k+1)) S n=bnd (prt (ev d) [2] (l.drop (k+1))) (af 25) S n):=by show _=_;exact congrFun (congrFun (body_prt ho (by decide) (by decide) (by decide) (by decide) (by decide) (by decide)) S) n
 have HP:=qq (pre_any HD [2] (by decide) (by decide) (by decide) hcx hd hg hkl hx (by decide) hd24)
 clear hcx hd hg ho hrn hx hd24 HD
 go_enter Tryz.func105,Tryz.ntmps105
 go_wp2_with fail
 refine (HP.out).mono ?_
 rintro e w3 ⟨p0,p1,p2,x,S1,n1,ov1,rfl,ha,r0,r1,r2,hgd,hd3,hm3,hx3⟩
 have HA:=qq ha;have R0:=qq r0;have R1:=qq r1;have R2:=qq r2;have HG:=qq hgd;have HD3:=qq hd3;have HM3:=qq hm3;have HX3:=qq hx3
 have HPB:Hid (Box w0 b E ov1 w3.heap.size [.int .i64 p0.k,.int .i64 p0.n,.string (tx p0.s),.int .i64 p0.x,.int .i64 p0.y,.int .i64 p1.k,.int .i64 p1.n,.string (tx p1.s),.int .i64 p1.x,.int .i64 p1.y,.int .i64 p2.k,.int .i64 p2.n,.string (tx p2.s),.int .i64 p2.x,.int .i64 p2.y] (w3.alloc (.cells #[.int .i64 p0.k,.int .i64 p0.n,.string (tx p0.s),.int .i64 p0.x,.int .i64 p0.y,.int .i64 p1.k,.int .i64 p1.n,.string (tx p1.s),.int .i64 p1.x,.int .i64 p1.y,.int .i64 p2.k,.int .i64 p2.n,.string (tx p2.s),.int .i64 p2.x,.int .i64 p2.y] 137))):=Box.made hd3 (by omega) 137 [.int .i64 p0.k,.int .i64 p0.n,.string (tx p0.s),.int .i64 p0.x,.int .i64 p0.y,.int .i64 p1.k,.int .i64 p1.n,.string (tx p1.s),.int .i64 p1.x,.int .i64 p1.y,.int .i64 p2.k,.int .i64 p2.n,.string (tx p2.s),.int .i64 p2.x,.int .i64 p2.y]
 have hlZ:=hx3.blk.lt
 clear ha r0 r1 r2 hgd hd3 hm3 hx3 HP
 rcases HA.out.cases with ⟨hx0,hX⟩ | ⟨rfl,a,ha,hX⟩
 · have HX0:=qq hx0;have HXX:=qq hX
   have hx1:(x == 0)=false:=by simpa using hx0
   have hx2:(x != 0)=true:=by simpa using hx0
   clear hx0 hX HA 
   obtain ⟨c0,c1,c2,c3,c4,z0,z1,z2,z3,z4,hltX9⟩:=HX3.out.fiv
   go_wp2_with fail
   refine denda (P:=bodyPost _ _ _ _ _) HD3.out HM3.out HX3.out (Nat.le_refl _) _ _ _ _ _ ?_
   clear hltX9 c0 c1 c2 c3 c4 z0 z1 z2 z3 z4 HD3 HM3 HX3
   intro w9 hd9 hm9 c0 c1 c2 c3 c4
   refine bodyPost_ret (v:=.tuple #[.agg zz,.int .i64 x]) (by simp [results,Tryz.results105,go_sem,c0,c1,c2,c3,c4]) rfl ⟨vz,x,S1,n1,ov1,rfl,by rw [HBD.out];exact Ans.er (bnd_er HXX.out) rfl HX0.out,hd9,hm9⟩
 · have HXX:=qq hX;have HAA:=qq ha;have HGD:=qq (HG.out rfl)
   clear hX ha HA HG
   have HN:=qq (conj_yes (rt_all R0.out).2.2.1)
   unfold pt at HN
   go_wp2_with fail
   refine (HN.out _).mono ?_
   rintro e w4 ⟨rfl,hb⟩
   have HD4:=qq ((HD3.out.old (box1 w3 _)).old hb);have HM4:=qq ((HM3.out.old (box1 w3 _)).old hb);have HX4:=qq ((HX3.out.old (box1 w3 _)).old hb);have HPB4:=qq (HPB.out.old hb)
   clear hb HD3 HM3 HX3 HPB 
   obtain ⟨c0,c1,c2,c3,c4,z0,z1,z2,z3,z4,hltX9⟩:=HX4.out.fiv
   have hlz4:=HX4.out.blk.lt
   go_wp2_with fail
   refine (epoint_any _ _ _).mono ?_
   rintro e w5 ⟨rfl,hb⟩
   have HD5:=qq ((HD4.out.old (box1 w4 _)).old hb);have HM5:=qq ((HM4.out.old (box1 w4 _)).old hb);have HX5:=qq ((HX4.out.old (box1 w4 _)).old hb)
   clear hb HD4 HM4 HX4 HPB4 hltX9 c0 c1 c2 c3 c4 z0 z1 z2 z3 z4
   obtain ⟨c0,c1,c2,c3,c4,z0,z1,z2,z3,z4,hltX9⟩:=HX5.out.fiv
   go_wp2_with fail
   refine dend0 (P:=bodyPost _ _ _ _ _) HD5.out HM5.out HX5.out (Nat.le_refl _) _ _ _ _ _ ?_
   clear hltX9 c0 c1 c2 c3 c4 z0 z1 z2 z3 z4 HD5 HM5 HX5
   intro w9 hd9 hm9 c0 c1 c2 c3 c4
   refine bodyPost_ret (v:=.tuple #[.agg #[.int .i64 2,.int .i64 0,.string ⟨#[]⟩,.int .i64 p0.x,.int .i64 (-p0.y)],.int .i64 0]) (by simp [results,Tryz.results105,go_sem,c0,c1,c2,c3,c4]) rfl ⟨pv p0.x (-p0.y),0,S1,n1,ov1,rfl,by rw [HBD.out];obtain ⟨rfl,rfl,rfl⟩:=HAA.out;exact Ans.ok (by rw [bnd_ok HXX.out];rfl) rfl,hd9,hm9⟩
theorem deed_spot {d:Nat} (HD:DoC (ev d) d):DeedC d 21 101:=by
 intro w0 A c E b l S n ov w k r hcx hd hg hkl ho hrn hx hd24
 have HBD:Hid (body (ev d) (nd l k) (l.drop (k+1)) S n=bnd (prt (ev d) [0,0] (l.drop (k+1))) (af 21) S n):=by show _=_;exact congrFun (congrFun (body_prt ho (by decide) (by decide) (by decide) (by decide) (by decide) (by decide)) S) n
 have HP:=qq (pre_any HD [0,0] (by decide) (by decide) (by decide) hcx hd hg hkl hx (by decide) hd24)
 clear hcx hd hg ho hrn hx hd24 HD
 go_enter Tryz.func101,Tryz.ntmps101
 go_wp2_with fail
 refine (HP.out).mono ?_
 rintro e w3 ⟨p0,p1,p2,x,S1,n1,ov1,rfl,ha,r0,r1,r2,hgd,hd3,hm3,hx3⟩
 have HA:=qq ha;have R0:=qq r0;have R1:=qq r1;have R2:=qq r2;have HG:=qq hgd;have HD3:=qq hd3;have HM3:=qq hm3;have HX3:=qq hx3
 have HPB:Hid (Box w0 b E ov1 w3.heap.size [.int .i64 p0.k,.int .i64 p0.n,.string (tx p0.s),.int .i64 p0.x,.int .i64 p0.y,.int .i64 p1.k,.int .i64 p1.n,.string (tx p1.s),.int .i64 p1.x,.int .i64 p1.y,.int .i64 p2.k,.int .i64 p2.n,.string (tx p2.s),.int .i64 p2.x,.int .i64 p2.y] (w3.alloc (.cells #[.int .i64 p0.k,.int .i64 p0.n,.string (tx p0.s),.int .i64 p0.x,.int .i64 p0.y,.int .i64 p1.k,.int .i64 p1.n,.string (tx p1.s),.int .i64 p1.x,.int .i64 p1.y,.int .i64 p2.k,.int .i64 p2.n,.string (tx p2.s),.int .i64 p2.x,.int .i64 p2.y] 137))):=Box.made hd3 (by omega) 137 [.int .i64 p0.k,.int .i64 p0.n,.string (tx p0.s),.int .i64 p0.x,.int .i64 p0.y,.int .i64 p1.k,.int .i64 p1.n,.string (tx p1.s),.int .i64 p1.x,.int .i64 p1.y,.int .i64 p2.k,.int .i64 p2.n,.string (tx p2.s),.int .i64 p2.x,.int .i64 p2.y]
 have hlZ:=hx3.blk.lt
 clear ha r0 r1 r2 hgd hd3 hm3 hx3 HP
 rcases HA.out.cases with ⟨hx0,hX⟩ | ⟨rfl,a,ha,hX⟩
 · have HX0:=qq hx0;have HXX:=qq hX
   have HI:=qq (eif_any 2 0 p0.n p1.n x ⟨#[]⟩)
   rw [ifv_er hx0] at HI
   clear hx0 hX HA
   go_wp2_with fail
   refine (epoint_any _ _ _).mono ?_
   rintro e w4 ⟨rfl,hb⟩
   have HD4:=qq ((HD3.out.old (box1 w3 _)).old hb);have HM4:=qq ((HM3.out.old (box1 w3 _)).old hb);have HX4:=qq ((HX3.out.old (box1 w3 _)).old hb);have HPB4:=qq (HPB.out.old hb)
   clear hb HD3 HM3 HX3 HPB 
   obtain ⟨c0,c1,c2,c3,c4,z0,z1,z2,z3,z4,hltX9⟩:=HX4.out.fiv
   go_wp2_with fail
   refine (HI.out _).mono ?_
   rintro e w5 ⟨rfl,hb⟩
   have HD5:=qq (HD4.out.old hb);have HM5:=qq (HM4.out.old hb);have HX5:=qq (HX4.out.old hb);have HPB5:=qq (HPB4.out.old hb)
   clear hb HD4 HM4 HX4 HPB4 hltX9 c0 c1 c2 c3 c4 z0 z1 z2 z3 z4
   obtain ⟨c0,c1,c2,c3,c4,z0,z1,z2,z3,z4,hltX9⟩:=HX5.out.fiv
   go_wp2_with fail
   refine dend0 (P:=bodyPost _ _ _ _ _) HD5.out HM5.out HX5.out (Nat.le_refl _) _ _ _ _ _ ?_
   clear hltX9 c0 c1 c2 c3 c4 z0 z1 z2 z3 z4 HD5 HM5 HX5
   intro w9 hd9 hm9 c0 c1 c2 c3 c4
   refine bodyPost_ret (v:=.tuple #[.agg zz,.int .i64 x]) (by simp [results,Tryz.results101,go_sem,c0,c1,c2,c3,c4]) rfl ⟨vz,x,S1,n1,ov1,rfl,by rw [HBD.out];exact Ans.er (bnd_er HXX.out) rfl HX0.out,hd9,hm9⟩
 · have HXX:=qq hX;have HAA:=qq ha
   clear hX ha HA HG
   rcases Bool.eq_false_or_eq_true (rt (pv p0.n p1.n)) with hr | hr
   · have HR:=qq hr
     have HI:=qq (eif_any 2 0 p0.n p1.n 0 ⟨#[]⟩)
     rw [ifv_ok (show rt ⟨2,0,(ByteArray.mk #[]).data.toList,p0.n,p1.n⟩=true from hr)] at HI
     clear hr
     go_wp2_with fail
     refine (epoint_any _ _ _).mono ?_
     rintro e w4 ⟨rfl,hb⟩
     have HD4:=qq ((HD3.out.old (box1 w3 _)).old hb);have HM4:=qq ((HM3.out.old (box1 w3 _)).old hb);have HX4:=qq ((HX3.out.old (box1 w3 _)).old hb);have HPB4:=qq (HPB.out.old hb)
     clear hb HD3 HM3 HX3 HPB 
     obtain ⟨c0,c1,c2,c3,c4,z0,z1,z2,z3,z4,hltX9⟩:=HX4.out.fiv
     go_wp2_with fail
     refine (HI.out _).mono ?_
     rintro e w5 ⟨rfl,hb⟩
     have HD5:=qq (HD4.out.old hb);have HM5:=qq (HM4.out.old hb);have HX5:=qq (HX4.out.old hb);have HPB5:=qq (HPB4.out.old hb)
     clear hb HD4 HM4 HX4 HPB4 hltX9 c0 c1 c2 c3 c4 z0 z1 z2 z3 z4
     obtain ⟨c0,c1,c2,c3,c4,z0,z1,z2,z3,z4,hltX9⟩:=HX5.out.fiv
     go_wp2_with fail
     refine dend0 (P:=bodyPost _ _ _ _ _) HD5.out HM5.out HX5.out (Nat.le_refl _) _ _ _ _ _ ?_
     clear hltX9 c0 c1 c2 c3 c4 z0 z1 z2 z3 z4 HD5 HM5 HX5
     intro w9 hd9 hm9 c0 c1 c2 c3 c4
     refine bodyPost_ret (v:=.tuple #[.agg #[.int .i64 2,.int .i64 0,.string ⟨#[]⟩,.int .i64 p0.n,.int .i64 p1.n],.int .i64 0]) (by simp [results,Tryz.results101,go_sem,c0,c1,c2,c3,c4]) rfl ⟨pv p0.n p1.n,0,S1,n1,ov1,rfl,by rw [HBD.out];obtain ⟨rfl,rfl,rfl⟩:=HAA.out;exact Ans.ok (by rw [bnd_ok HXX.out];exact chk_ok HR.out _ _) rfl,hd9,hm9⟩
   · have HR:=qq hr
     have HI:=qq (eif_any 2 0 p0.n p1.n 0 ⟨#[]⟩)
     rw [ifv_no (show rt ⟨2,0,(ByteArray.mk #[]).data.toList,p0.n,p1.n⟩=false from hr)] at HI
     clear hr
     go_wp2_with fail
     refine (epoint_any _ _ _).mono ?_
     rintro e w4 ⟨rfl,hb⟩
     have HD4:=qq ((HD3.out.old (box1 w3 _)).old hb);have HM4:=qq ((HM3.out.old (box1 w3 _)).old hb);have HX4:=qq ((HX3.out.old (box1 w3 _)).old hb);have HPB4:=qq (HPB.out.old hb)
     clear hb HD3 HM3 HX3 HPB 
     obtain ⟨c0,c1,c2,c3,c4,z0,z1,z2,z3,z4,hltX9⟩:=HX4.out.fiv
     go_wp2_with fail
     refine (HI.out _).mono ?_
     rintro e w5 ⟨rfl,hb⟩
     have HD5:=qq (HD4.out.old hb);have HM5:=qq (HM4.out.old hb);have HX5:=qq (HX4.out.old hb);have HPB5:=qq (HPB4.out.old hb)
     clear hb HD4 HM4 HX4 HPB4 hltX9 c0 c1 c2 c3 c4 z0 z1 z2 z3 z4
     obtain ⟨c0,c1,c2,c3,c4,z0,z1,z2,z3,z4,hltX9⟩:=HX5.out.fiv
     go_wp2_with fail
     refine dend0 (P:=bodyPost _ _ _ _ _) HD5.out HM5.out HX5.out (Nat.le_refl _) _ _ _ _ _ ?_
     clear hltX9 c0 c1 c2 c3 c4 z0 z1 z2 z3 z4 HD5 HM5 HX5
     intro w9 hd9 hm9 c0 c1 c2 c3 c4
     refine bodyPost_ret (v:=.tuple #[.agg zz,.int .i64 14]) (by simp [results,Tryz.results101,go_sem,c0,c1,c2,c3,c4]) rfl ⟨vz,14,S1,n1,ov1,rfl,by rw [HBD.out];obtain ⟨rfl,rfl,rfl⟩:=HAA.out;exact Ans.er (by rw [bnd_ok HXX.out];exact chk_no HR.out _ _) rfl (by decide),hd9,hm9⟩
theorem deed_neg {d:Nat} (HD:DoC (ev d) d):DeedC d 7 87:=by
 intro w0 A c E b l S n ov w k r hcx hd hg hkl ho hrn hx hd24
 have HBD:Hid (body (ev d) (nd l k) (l.drop (k+1)) S n=bnd (prt (ev d) [-1] (l.drop (k+1))) (af 7) S n):=by show _=_;exact congrFun (congrFun (body_prt ho (by decide) (by decide) (by decide) (by decide) (by decide) (by decide)) S) n
 have HP:=qq (pre_any HD [-1] (by decide) (by decide) (by decide) hcx hd hg hkl hx (by decide) hd24)
 clear hcx hd hg ho hrn hx hd24 HD
 go_enter Tryz.func87,Tryz.ntmps87
 go_wp2_with fail
 refine (HP.out).mono ?_
 rintro e w3 ⟨p0,p1,p2,x,S1,n1,ov1,rfl,ha,r0,r1,r2,hgd,hd3,hm3,hx3⟩
 have HA:=qq ha;have R0:=qq r0;have R1:=qq r1;have R2:=qq r2;have HG:=qq hgd;have HD3:=qq hd3;have HM3:=qq hm3;have HX3:=qq hx3
 have HPB:Hid (Box w0 b E ov1 w3.heap.size [.int .i64 p0.k,.int .i64 p0.n,.string (tx p0.s),.int .i64 p0.x,.int .i64 p0.y,.int .i64 p1.k,.int .i64 p1.n,.string (tx p1.s),.int .i64 p1.x,.int .i64 p1.y,.int .i64 p2.k,.int .i64 p2.n,.string (tx p2.s),.int .i64 p2.x,.int .i64 p2.y] (w3.alloc (.cells #[.int .i64 p0.k,.int .i64 p0.n,.string (tx p0.s),.int .i64 p0.x,.int .i64 p0.y,.int .i64 p1.k,.int .i64 p1.n,.string (tx p1.s),.int .i64 p1.x,.int .i64 p1.y,.int .i64 p2.k,.int .i64 p2.n,.string (tx p2.s),.int .i64 p2.x,.int .i64 p2.y] 137))):=Box.made hd3 (by omega) 137 [.int .i64 p0.k,.int .i64 p0.n,.string (tx p0.s),.int .i64 p0.x,.int .i64 p0.y,.int .i64 p1.k,.int .i64 p1.n,.string (tx p1.s),.int .i64 p1.x,.int .i64 p1.y,.int .i64 p2.k,.int .i64 p2.n,.string (tx p2.s),.int .i64 p2.x,.int .i64 p2.y]
 have hlZ:=hx3.blk.lt
 clear ha r0 r1 r2 hgd hd3 hm3 hx3 HP
 rcases HA.out.cases with ⟨hx0,hX⟩ | ⟨rfl,a,ha,hX⟩
 · have HX0:=qq hx0;have HXX:=qq hX
   have hx1:(x == 0)=false:=by simpa using hx0
   have hx2:(x != 0)=true:=by simpa using hx0
   clear hx0 hX HA 
   obtain ⟨c0,c1,c2,c3,c4,z0,z1,z2,z3,z4,hltX9⟩:=HX3.out.fiv
   go_wp2_with fail
   refine denda (P:=bodyPost _ _ _ _ _) HD3.out HM3.out HX3.out (Nat.le_refl _) _ _ _ _ _ ?_
   clear hltX9 c0 c1 c2 c3 c4 z0 z1 z2 z3 z4 HD3 HM3 HX3
   intro w9 hd9 hm9 c0 c1 c2 c3 c4
   refine bodyPost_ret (v:=.tuple #[.agg zz,.int .i64 x]) (by simp [results,Tryz.results87,go_sem,c0,c1,c2,c3,c4]) rfl ⟨vz,x,S1,n1,ov1,rfl,by rw [HBD.out];exact Ans.er (bnd_er HXX.out) rfl HX0.out,hd9,hm9⟩
 · have HXX:=qq hX;have HAA:=qq ha;have HGD:=qq (HG.out rfl)
   clear hX ha HA HG
   have hn:=(rt_all R0.out).1;have hp:=rb_yes (rt_all R0.out).2.2.1
   unfold pt at hp
   dsimp only at hp
   obtain ⟨hn1,hn2⟩:=hn;obtain ⟨⟨hp1,hp2⟩,hp3,hp4⟩:=hp
   by_cases hk:p0.k=0
   · have hk1:(p0.k == 0)=true:=by simpa using hk
     have HK:=qq hk;clear hk
     go_wp2_with fail
     refine (enumber_any _ _).mono ?_
     rintro e w4 ⟨rfl,hb⟩
     have HD4:=qq ((HD3.out.old (box1 w3 _)).old hb);have HM4:=qq ((HM3.out.old (box1 w3 _)).old hb);have HX4:=qq ((HX3.out.old (box1 w3 _)).old hb);have HPB4:=qq (HPB.out.old hb)
     clear hb HD3 HM3 HX3 HPB 
     obtain ⟨c0,c1,c2,c3,c4,z0,z1,z2,z3,z4,hltX9⟩:=HX4.out.fiv
     go_wp2_with fail
     refine dend0 (P:=bodyPost _ _ _ _ _) HD4.out HM4.out HX4.out (Nat.le_refl _) _ _ _ _ _ ?_
     clear hltX9 c0 c1 c2 c3 c4 z0 z1 z2 z3 z4 HD4 HM4 HX4
     intro w9 hd9 hm9 c0 c1 c2 c3 c4
     refine bodyPost_ret (v:=.tuple #[.agg #[.int .i64 0,.int .i64 (-p0.n),.string ⟨#[]⟩,.int .i64 0,.int .i64 0],.int .i64 0]) (by simp [results,Tryz.results87,go_sem,c0,c1,c2,c3,c4]) rfl ⟨nv (-p0.n),0,S1,n1,ov1,rfl,by rw [HBD.out];obtain ⟨rfl,rfl,rfl⟩:=HAA.out;exact Ans.ok (by rw [bnd_ok HXX.out];exact neg_int HK.out _ _) rfl,hd9,hm9⟩
   · have hk1:(p0.k == 0)=false:=by simpa using hk
     by_cases hk2:p0.k=2
     · have hk3:(p0.k == 2)=true:=by simpa using hk2
       have HK:=qq hk2;clear hk hk2
       have HS:=qq (sub_any 0 0 p0.x p0.y)
       rw [sub_right hp1 hp2 hp3 hp4] at HS
       go_wp2_with fail
       refine (HS.out _).mono ?_
       rintro e w4 ⟨rfl,hb⟩
       have HD4:=qq ((HD3.out.old (box1 w3 _)).old hb);have HM4:=qq ((HM3.out.old (box1 w3 _)).old hb);have HX4:=qq ((HX3.out.old (box1 w3 _)).old hb);have HPB4:=qq (HPB.out.old hb)
       clear hb HD3 HM3 HX3 HPB 
       obtain ⟨c0,c1,c2,c3,c4,z0,z1,z2,z3,z4,hltX9⟩:=HX4.out.fiv
       have hlz4:=HX4.out.blk.lt
       go_wp2_with fail
       refine (epoint_any _ _ _).mono ?_
       rintro e w5 ⟨rfl,hb⟩
       have HD5:=qq ((HD4.out.old (box1 w4 _)).old hb);have HM5:=qq ((HM4.out.old (box1 w4 _)).old hb);have HX5:=qq ((HX4.out.old (box1 w4 _)).old hb)
       clear hb HD4 HM4 HX4 HPB4 hltX9 c0 c1 c2 c3 c4 z0 z1 z2 z3 z4
       obtain ⟨c0,c1,c2,c3,c4,z0,z1,z2,z3,z4,hltX9⟩:=HX5.out.fiv
       go_wp2_with fail
       refine dend0 (P:=bodyPost _ _ _ _ _) HD5.out HM5.out HX5.out (Nat.le_refl _) _ _ _ _ _ ?_
       clear hltX9 c0 c1 c2 c3 c4 z0 z1 z2 z3 z4 HD5 HM5 HX5
       intro w9 hd9 hm9 c0 c1 c2 c3 c4
       refine bodyPost_ret (v:=.tuple #[.agg #[.int .i64 2,.int .i64 0,.string ⟨#[]⟩,.int .i64 (-p0.x),.int .i64 (-p0.y)],.int .i64 0]) (by simp [results,Tryz.results87,go_sem,c0,c1,c2,c3,c4]) rfl ⟨pv (-p0.x) (-p0.y),0,S1,n1,ov1,rfl,by rw [HBD.out];obtain ⟨rfl,rfl,rfl⟩:=HAA.out;exact Ans.ok (by rw [bnd_ok HXX.out];exact neg_point HK.out _ _) rfl,hd9,hm9⟩
     · have hk3:(p0.k == 2)=false:=by simpa using hk2
       have HK:=qq (And.intro hk hk2);clear hk hk2
       obtain ⟨c0,c1,c2,c3,c4,z0,z1,z2,z3,z4,hltX9⟩:=HX3.out.fiv
       go_wp2_with fail
       refine denda (P:=bodyPost _ _ _ _ _) HD3.out HM3.out HX3.out (Nat.le_refl _) _ _ _ _ _ ?_
       clear hltX9 c0 c1 c2 c3 c4 z0 z1 z2 z3 z4 HD3 HM3 HX3
       intro w9 hd9 hm9 c0 c1 c2 c3 c4
       refine bodyPost_ret (v:=.tuple #[.agg zz,.int .i64 13]) (by simp [results,Tryz.results87,go_sem,c0,c1,c2,c3,c4]) rfl ⟨vz,13,S1,n1,ov1,rfl,by rw [HBD.out];obtain ⟨rfl,rfl,rfl⟩:=HAA.out;exact Ans.er (by rw [bnd_ok HXX.out];exact neg_no HK.out.1 HK.out.2 _ _) rfl (by decide),hd9,hm9⟩
end Go.Proofs.YtgakcpcpfkoaiaaGreatDoor.Ev
