/-
  A text of this claim: EvDeed1.
-/
import Derived.Test.YtgakcpcpfkoaiaaGreatDoorQ1
import Derived.Test.YtgakcpcpfkoaiaaGreatDoorQ7
import Derived.Test.YtgakcpcpfkoaiaaGreatDoorQ6
import Derived.Test.YtgakcpcpfkoaiaaGreatDoorQ3
set_option maxHeartbeats 1000000
set_option maxRecDepth 100000
namespace Go.Proofs.YtgakcpcpfkoaiaaGreatDoor.Ev
open Go.ChangeShapes Go.WideShapes Go.ChangeAt Go.RowKit Ov Va Ga Ex
theorem tr_tri (b:Bool):tr b=nv (tri b):=by cases b <;> rfl
theorem eql_va (a b:Va) (w:World):(binOp .eql 28 (.agg a) (.agg b)).run Tryz.prog w=.ok (.bool (decide (a=b))) w:=by
 have h:=eql_val a.k a.n a.x a.y b.k b.n b.x b.y (tx a.s) (tx b.s) w
 rw [tx_list,tx_list] at h
 exact h
theorem write_va {v:Va} (h:rt v=true) (w:World) (ht:Tab w):Calls Tryz.prog 146 #[.agg v] w (Gives (.string (tx (wr v))) w):=by
 have g:=write_yes (k:=v.k) (n:=v.n) (x:=v.x) (y:=v.y) (s:=tx v.s) (by rw [tx_list];exact h) w ht
 rw [tx_list] at g
 exact g
theorem text_yes {l:List Va} (h:(at0 l).k=1) (S:St) (n:Nat):af 20 l S n=.ok (at0 l) S n:=by
 show lift (if (at0 l).k=1 then .inr (at0 l) else .inr (tv (wr (at0 l)))) S n=_
 rw [if_pos h];rfl
theorem text_no {l:List Va} (h:(at0 l).k ≠ 1) (S:St) (n:Nat):af 20 l S n=.ok (tv (wr (at0 l))) S n:=by
 show lift (if (at0 l).k=1 then .inr (at0 l) else .inr (tv (wr (at0 l)))) S n=_
 rw [if_neg h];rfl
theorem deed_size {d:Nat} (HD:DoC (ev d) d):DeedC d 15 95:=by
 intro w0 A c E b l S n ov w k r hcx hd hg hkl ho hrn hx hd24
 have HBD:Hid (body (ev d) (nd l k) (l.drop (k+1)) S n=bnd (prt (ev d) [1] (l.drop (k+1))) (af 15) S n):=by show _=_;exact congrFun (congrFun (body_prt ho (by decide) (by decide) (by decide) (by decide) (by decide) (by decide)) S) n
 have HP:=qq (pre_any HD [1] (by decide) (by decide) (by decide) hcx hd hg hkl hx (by decide) hd24)
 clear hcx hd hg ho hrn hx hd24 HD
 go_enter Tryz.func95,Tryz.ntmps95
 go_wp2_with fail
 refine (HP.out).mono ?_
 rintro e w3 ⟨p0,p1,p2,x,S1,n1,ov1,rfl,ha,r0,r1,r2,hgd,hd3,hm3,hx3⟩
 have HA:=qq ha;have R0:=qq r0;have R1:=qq r1;have R2:=qq r2;have HG:=qq hgd;have HD3:=qq hd3;have HM3:=qq hm3;have HX3:=qq hx3
 have HPB:Hid (Box w0 b E ov1 w3.heap.size [.int .i64 p0.k,.int .i64 p0.n,.string (tx p0.s),.int .i64 p0.x,.int .i64 p0.y,.int .i64 p1.k,.int .i64 p1.n,.string (tx p1.s),.int .i64 p1.x,.int .i64 p1.y,.int .i64 p2.k,.int .i64 p2.n,.string (tx p2.s),.int .i64 p2.x,.int .i64 p2.y] (w3.alloc (.cells #[.int .i64 p0.k,.int .i64 p0.n,.string (tx p0.s),.int .i64 p0.x,.int .i64 p0.y,.int .i64 p1.k,.int .i64 p1.n,.string (tx p1.s),.int .i64 p1.x,.int .i64 p1.y,.int .i64 p2.k,.int .i64 p2.n,.string (tx p2.s),.int .i64 p2.x,.int .i64 p2.y] 137))):=Box.made hd3 (by omega) 137 [.int .i64 p0.k,.int .i64 p0.n,.string (tx p0.s),.int .i64 p0.x,.int .i64 p0.y,.int .i64 p1.k,.int .i64 p1.n,.string (tx p1.s),.int .i64 p1.x,.int .i64 p1.y,.int .i64 p2.k,.int .i64 p2.n,.string (tx p2.s),.int .i64 p2.x,.int .i64 p2.y]
 have hlZ:=hx3.blk.lt
 clear ha r0 r1 r2 hgd hd3 hm3 hx3 HP
 go_wp2_with fail
 refine (enumber_any _ _).mono ?_
 rintro e w4 ⟨rfl,hb⟩
 have HD4:=qq ((HD3.out.old (box1 w3 _)).old hb);have HM4:=qq ((HM3.out.old (box1 w3 _)).old hb);have HX4:=qq ((HX3.out.old (box1 w3 _)).old hb);have HPB4:=qq (HPB.out.old hb)
 clear hb HD3 HM3 HX3 HPB 
 obtain ⟨c0,c1,c2,c3,c4,z0,z1,z2,z3,z4,hltX9⟩:=HX4.out.fiv
 go_wp2_with fail
 refine dend0 (P:=bodyPost _ _ _ _ _) HD4.out HM4.out HX4.out (Nat.le_refl _) _ _ _ _ _ ?_
 clear hltX9 c0 c1 c2 c3 c4 z0 z1 z2 z3 z4 HD4 HM4 HX4
 intro w9 hd9 hm9 c0 c1 c2 c3 c4
 refine bodyPost_ret (v:=.tuple #[.agg #[.int .i64 0,.int .i64 ((tx p0.s).size:Int),.string ⟨#[]⟩,.int .i64 0,.int .i64 0],.int .i64 x]) (by simp [results,Tryz.results95,go_sem,c0,c1,c2,c3,c4]) rfl ⟨nv p0.s.length,x,S1,n1,ov1,by rw [tx_size];rfl,by rw [HBD.out];exact HA.out.bnd fun h0 a ha _=>by obtain ⟨rfl,rfl,rfl⟩:=ha;exact ⟨_,rfl,rfl⟩,hd9,hm9⟩
theorem deed_not {d:Nat} (HD:DoC (ev d) d):DeedC d 10 90:=by
 intro w0 A c E b l S n ov w k r hcx hd hg hkl ho hrn hx hd24
 have HBD:Hid (body (ev d) (nd l k) (l.drop (k+1)) S n=bnd (prt (ev d) [0] (l.drop (k+1))) (af 10) S n):=by show _=_;exact congrFun (congrFun (body_prt ho (by decide) (by decide) (by decide) (by decide) (by decide) (by decide)) S) n
 have HP:=qq (pre_any HD [0] (by decide) (by decide) (by decide) hcx hd hg hkl hx (by decide) hd24)
 clear hcx hd hg ho hrn hx hd24 HD
 go_enter Tryz.func90,Tryz.ntmps90
 go_wp2_with fail
 refine (HP.out).mono ?_
 rintro e w3 ⟨p0,p1,p2,x,S1,n1,ov1,rfl,ha,r0,r1,r2,hgd,hd3,hm3,hx3⟩
 have HA:=qq ha;have R0:=qq r0;have R1:=qq r1;have R2:=qq r2;have HG:=qq hgd;have HD3:=qq hd3;have HM3:=qq hm3;have HX3:=qq hx3
 have HPB:Hid (Box w0 b E ov1 w3.heap.size [.int .i64 p0.k,.int .i64 p0.n,.string (tx p0.s),.int .i64 p0.x,.int .i64 p0.y,.int .i64 p1.k,.int .i64 p1.n,.string (tx p1.s),.int .i64 p1.x,.int .i64 p1.y,.int .i64 p2.k,.int .i64 p2.n,.string (tx p2.s),.int .i64 p2.x,.int .i64 p2.y] (w3.alloc (.cells #[.int .i64 p0.k,.int .i64 p0.n,.string (tx p0.s),.int .i64 p0.x,.int .i64 p0.y,.int .i64 p1.k,.int .i64 p1.n,.string (tx p1.s),.int .i64 p1.x,.int .i64 p1.y,.int .i64 p2.k,.int .i64 p2.n,.string (tx p2.s),.int .i64 p2.x,.int .i64 p2.y] 137))):=Box.made hd3 (by omega) 137 [.int .i64 p0.k,.int .i64 p0.n,.string (tx p0.s),.int .i64 p0.x,.int .i64 p0.y,.int .i64 p1.k,.int .i64 p1.n,.string (tx p1.s),.int .i64 p1.x,.int .i64 p1.y,.int .i64 p2.k,.int .i64 p2.n,.string (tx p2.s),.int .i64 p2.x,.int .i64 p2.y]
 have hlZ:=hx3.blk.lt
 clear ha r0 r1 r2 hgd hd3 hm3 hx3 HP
 go_wp2_with fail
 refine (etruth_any _ _).mono ?_
 rintro e w4 ⟨rfl,hb⟩
 have HD4:=qq ((HD3.out.old (box1 w3 _)).old hb);have HM4:=qq ((HM3.out.old (box1 w3 _)).old hb);have HX4:=qq ((HX3.out.old (box1 w3 _)).old hb);have HPB4:=qq (HPB.out.old hb)
 clear hb HD3 HM3 HX3 HPB 
 obtain ⟨c0,c1,c2,c3,c4,z0,z1,z2,z3,z4,hltX9⟩:=HX4.out.fiv
 go_wp2_with fail
 refine dend0 (P:=bodyPost _ _ _ _ _) HD4.out HM4.out HX4.out (Nat.le_refl _) _ _ _ _ _ ?_
 clear hltX9 c0 c1 c2 c3 c4 z0 z1 z2 z3 z4 HD4 HM4 HX4
 intro w9 hd9 hm9 c0 c1 c2 c3 c4
 refine bodyPost_ret (v:=.tuple #[.agg #[.int .i64 0,.int .i64 (tri (p0.n == 0)),.string ⟨#[]⟩,.int .i64 0,.int .i64 0],.int .i64 x]) (by simp [results,Tryz.results90,go_sem,c0,c1,c2,c3,c4]) rfl ⟨nv (tri (p0.n == 0)),x,S1,n1,ov1,rfl,by rw [HBD.out];exact HA.out.bnd fun h0 a ha _=>by obtain ⟨rfl,rfl,rfl⟩:=ha;exact ⟨_,rfl,(tr_tri _).symm⟩,hd9,hm9⟩
theorem deed_re {d:Nat} (HD:DoC (ev d) d):DeedC d 22 102:=by
 intro w0 A c E b l S n ov w k r hcx hd hg hkl ho hrn hx hd24
 have HBD:Hid (body (ev d) (nd l k) (l.drop (k+1)) S n=bnd (prt (ev d) [2] (l.drop (k+1))) (af 22) S n):=by show _=_;exact congrFun (congrFun (body_prt ho (by decide) (by decide) (by decide) (by decide) (by decide) (by decide)) S) n
 have HP:=qq (pre_any HD [2] (by decide) (by decide) (by decide) hcx hd hg hkl hx (by decide) hd24)
 clear hcx hd hg ho hrn hx hd24 HD
 go_enter Tryz.func102,Tryz.ntmps102
 go_wp2_with fail
 refine (HP.out).mono ?_
 rintro e w3 ⟨p0,p1,p2,x,S1,n1,ov1,rfl,ha,r0,r1,r2,hgd,hd3,hm3,hx3⟩
 have HA:=qq ha;have R0:=qq r0;have R1:=qq r1;have R2:=qq r2;have HG:=qq hgd;have HD3:=qq hd3;have HM3:=qq hm3;have HX3:=qq hx3
 have HPB:Hid (Box w0 b E ov1 w3.heap.size [.int .i64 p0.k,.int .i64 p0.n,.string (tx p0.s),.int .i64 p0.x,.int .i64 p0.y,.int .i64 p1.k,.int .i64 p1.n,.string (tx p1.s),.int .i64 p1.x,.int .i64 p1.y,.int .i64 p2.k,.int .i64 p2.n,.string (tx p2.s),.int .i64 p2.x,.int .i64 p2.y] (w3.alloc (.cells #[.int .i64 p0.k,.int .i64 p0.n,.string (tx p0.s),.int .i64 p0.x,.int .i64 p0.y,.int .i64 p1.k,.int .i64 p1.n,.string (tx p1.s),.int .i64 p1.x,.int .i64 p1.y,.int .i64 p2.k,.int .i64 p2.n,.string (tx p2.s),.int .i64 p2.x,.int .i64 p2.y] 137))):=Box.made hd3 (by omega) 137 [.int .i64 p0.k,.int .i64 p0.n,.string (tx p0.s),.int .i64 p0.x,.int .i64 p0.y,.int .i64 p1.k,.int .i64 p1.n,.string (tx p1.s),.int .i64 p1.x,.int .i64 p1.y,.int .i64 p2.k,.int .i64 p2.n,.string (tx p2.s),.int .i64 p2.x,.int .i64 p2.y]
 have hlZ:=hx3.blk.lt
 clear ha r0 r1 r2 hgd hd3 hm3 hx3 HP
 go_wp2_with fail
 refine (enumber_any _ _).mono ?_
 rintro e w4 ⟨rfl,hb⟩
 have HD4:=qq ((HD3.out.old (box1 w3 _)).old hb);have HM4:=qq ((HM3.out.old (box1 w3 _)).old hb);have HX4:=qq ((HX3.out.old (box1 w3 _)).old hb);have HPB4:=qq (HPB.out.old hb)
 clear hb HD3 HM3 HX3 HPB 
 obtain ⟨c0,c1,c2,c3,c4,z0,z1,z2,z3,z4,hltX9⟩:=HX4.out.fiv
 go_wp2_with fail
 refine dend0 (P:=bodyPost _ _ _ _ _) HD4.out HM4.out HX4.out (Nat.le_refl _) _ _ _ _ _ ?_
 clear hltX9 c0 c1 c2 c3 c4 z0 z1 z2 z3 z4 HD4 HM4 HX4
 intro w9 hd9 hm9 c0 c1 c2 c3 c4
 refine bodyPost_ret (v:=.tuple #[.agg #[.int .i64 0,.int .i64 p0.x,.string ⟨#[]⟩,.int .i64 0,.int .i64 0],.int .i64 x]) (by simp [results,Tryz.results102,go_sem,c0,c1,c2,c3,c4]) rfl ⟨nv p0.x,x,S1,n1,ov1,rfl,by rw [HBD.out];exact HA.out.bnd fun h0 a ha _=>by obtain ⟨rfl,rfl,rfl⟩:=ha;exact ⟨_,rfl,rfl⟩,hd9,hm9⟩
theorem deed_im {d:Nat} (HD:DoC (ev d) d):DeedC d 23 103:=by
 intro w0 A c E b l S n ov w k r hcx hd hg hkl ho hrn hx hd24
 have HBD:Hid (body (ev d) (nd l k) (l.drop (k+1)) S n=bnd (prt (ev d) [2] (l.drop (k+1))) (af 23) S n):=by show _=_;exact congrFun (congrFun (body_prt ho (by decide) (by decide) (by decide) (by decide) (by decide) (by decide)) S) n
 have HP:=qq (pre_any HD [2] (by decide) (by decide) (by decide) hcx hd hg hkl hx (by decide) hd24)
 clear hcx hd hg ho hrn hx hd24 HD
 go_enter Tryz.func103,Tryz.ntmps103
 go_wp2_with fail
 refine (HP.out).mono ?_
 rintro e w3 ⟨p0,p1,p2,x,S1,n1,ov1,rfl,ha,r0,r1,r2,hgd,hd3,hm3,hx3⟩
 have HA:=qq ha;have R0:=qq r0;have R1:=qq r1;have R2:=qq r2;have HG:=qq hgd;have HD3:=qq hd3;have HM3:=qq hm3;have HX3:=qq hx3
 have HPB:Hid (Box w0 b E ov1 w3.heap.size [.int .i64 p0.k,.int .i64 p0.n,.string (tx p0.s),.int .i64 p0.x,.int .i64 p0.y,.int .i64 p1.k,.int .i64 p1.n,.string (tx p1.s),.int .i64 p1.x,.int .i64 p1.y,.int .i64 p2.k,.int .i64 p2.n,.string (tx p2.s),.int .i64 p2.x,.int .i64 p2.y] (w3.alloc (.cells #[.int .i64 p0.k,.int .i64 p0.n,.string (tx p0.s),.int .i64 p0.x,.int .i64 p0.y,.int .i64 p1.k,.int .i64 p1.n,.string (tx p1.s),.int .i64 p1.x,.int .i64 p1.y,.int .i64 p2.k,.int .i64 p2.n,.string (tx p2.s),.int .i64 p2.x,.int .i64 p2.y] 137))):=Box.made hd3 (by omega) 137 [.int .i64 p0.k,.int .i64 p0.n,.string (tx p0.s),.int .i64 p0.x,.int .i64 p0.y,.int .i64 p1.k,.int .i64 p1.n,.string (tx p1.s),.int .i64 p1.x,.int .i64 p1.y,.int .i64 p2.k,.int .i64 p2.n,.string (tx p2.s),.int .i64 p2.x,.int .i64 p2.y]
 have hlZ:=hx3.blk.lt
 clear ha r0 r1 r2 hgd hd3 hm3 hx3 HP
 go_wp2_with fail
 refine (enumber_any _ _).mono ?_
 rintro e w4 ⟨rfl,hb⟩
 have HD4:=qq ((HD3.out.old (box1 w3 _)).old hb);have HM4:=qq ((HM3.out.old (box1 w3 _)).old hb);have HX4:=qq ((HX3.out.old (box1 w3 _)).old hb);have HPB4:=qq (HPB.out.old hb)
 clear hb HD3 HM3 HX3 HPB 
 obtain ⟨c0,c1,c2,c3,c4,z0,z1,z2,z3,z4,hltX9⟩:=HX4.out.fiv
 go_wp2_with fail
 refine dend0 (P:=bodyPost _ _ _ _ _) HD4.out HM4.out HX4.out (Nat.le_refl _) _ _ _ _ _ ?_
 clear hltX9 c0 c1 c2 c3 c4 z0 z1 z2 z3 z4 HD4 HM4 HX4
 intro w9 hd9 hm9 c0 c1 c2 c3 c4
 refine bodyPost_ret (v:=.tuple #[.agg #[.int .i64 0,.int .i64 p0.y,.string ⟨#[]⟩,.int .i64 0,.int .i64 0],.int .i64 x]) (by simp [results,Tryz.results103,go_sem,c0,c1,c2,c3,c4]) rfl ⟨nv p0.y,x,S1,n1,ov1,rfl,by rw [HBD.out];exact HA.out.bnd fun h0 a ha _=>by obtain ⟨rfl,rfl,rfl⟩:=ha;exact ⟨_,rfl,rfl⟩,hd9,hm9⟩
theorem deed_same {d:Nat} (HD:DoC (ev d) d):DeedC d 9 89:=by
 intro w0 A c E b l S n ov w k r hcx hd hg hkl ho hrn hx hd24
 have HBD:Hid (body (ev d) (nd l k) (l.drop (k+1)) S n=bnd (prt (ev d) [-1,-1] (l.drop (k+1))) (af 9) S n):=by show _=_;exact congrFun (congrFun (body_prt ho (by decide) (by decide) (by decide) (by decide) (by decide) (by decide)) S) n
 have HP:=qq (pre_any HD [-1,-1] (by decide) (by decide) (by decide) hcx hd hg hkl hx (by decide) hd24)
 clear hcx hd hg ho hrn hx hd24 HD
 go_enter Tryz.func89,Tryz.ntmps89
 go_wp2_with fail
 refine (HP.out).mono ?_
 rintro e w3 ⟨p0,p1,p2,x,S1,n1,ov1,rfl,ha,r0,r1,r2,hgd,hd3,hm3,hx3⟩
 have HA:=qq ha;have R0:=qq r0;have R1:=qq r1;have R2:=qq r2;have HG:=qq hgd;have HD3:=qq hd3;have HM3:=qq hm3;have HX3:=qq hx3
 have HPB:Hid (Box w0 b E ov1 w3.heap.size [.int .i64 p0.k,.int .i64 p0.n,.string (tx p0.s),.int .i64 p0.x,.int .i64 p0.y,.int .i64 p1.k,.int .i64 p1.n,.string (tx p1.s),.int .i64 p1.x,.int .i64 p1.y,.int .i64 p2.k,.int .i64 p2.n,.string (tx p2.s),.int .i64 p2.x,.int .i64 p2.y] (w3.alloc (.cells #[.int .i64 p0.k,.int .i64 p0.n,.string (tx p0.s),.int .i64 p0.x,.int .i64 p0.y,.int .i64 p1.k,.int .i64 p1.n,.string (tx p1.s),.int .i64 p1.x,.int .i64 p1.y,.int .i64 p2.k,.int .i64 p2.n,.string (tx p2.s),.int .i64 p2.x,.int .i64 p2.y] 137))):=Box.made hd3 (by omega) 137 [.int .i64 p0.k,.int .i64 p0.n,.string (tx p0.s),.int .i64 p0.x,.int .i64 p0.y,.int .i64 p1.k,.int .i64 p1.n,.string (tx p1.s),.int .i64 p1.x,.int .i64 p1.y,.int .i64 p2.k,.int .i64 p2.n,.string (tx p2.s),.int .i64 p2.x,.int .i64 p2.y]
 have hlZ:=hx3.blk.lt
 clear ha r0 r1 r2 hgd hd3 hm3 hx3 HP
 have heq:∀ W,(binOp .eql 28 (.agg p0) (.agg p1)).run Tryz.prog W=.ok (.bool (decide (p0=p1))) W:=fun W=>eql_va p0 p1 W
 go_wp2_with fail
 refine (etruth_any _ _).mono ?_
 rintro e w4 ⟨rfl,hb⟩
 have HD4:=qq ((HD3.out.old (box1 w3 _)).old hb);have HM4:=qq ((HM3.out.old (box1 w3 _)).old hb);have HX4:=qq ((HX3.out.old (box1 w3 _)).old hb);have HPB4:=qq (HPB.out.old hb)
 clear heq
 clear hb HD3 HM3 HX3 HPB 
 obtain ⟨c0,c1,c2,c3,c4,z0,z1,z2,z3,z4,hltX9⟩:=HX4.out.fiv
 go_wp2_with fail
 refine dend0 (P:=bodyPost _ _ _ _ _) HD4.out HM4.out HX4.out (Nat.le_refl _) _ _ _ _ _ ?_
 clear hltX9 c0 c1 c2 c3 c4 z0 z1 z2 z3 z4 HD4 HM4 HX4
 intro w9 hd9 hm9 c0 c1 c2 c3 c4
 refine bodyPost_ret (v:=.tuple #[.agg #[.int .i64 0,.int .i64 (tri (decide (p0=p1))),.string ⟨#[]⟩,.int .i64 0,.int .i64 0],.int .i64 x]) (by simp [results,Tryz.results89,go_sem,c0,c1,c2,c3,c4]) rfl ⟨nv (tri (decide (p0=p1))),x,S1,n1,ov1,rfl,by rw [HBD.out];exact HA.out.bnd fun h0 a ha _=>by obtain ⟨rfl,rfl,rfl⟩:=ha;exact ⟨_,rfl,(tr_tri _).symm⟩,hd9,hm9⟩
theorem deed_then {d:Nat} (HD:DoC (ev d) d):DeedC d 27 107:=by
 intro w0 A c E b l S n ov w k r hcx hd hg hkl ho hrn hx hd24
 have HBD:Hid (body (ev d) (nd l k) (l.drop (k+1)) S n=bnd (prt (ev d) [-1,-1] (l.drop (k+1))) (af 27) S n):=by show _=_;exact congrFun (congrFun (body_prt ho (by decide) (by decide) (by decide) (by decide) (by decide) (by decide)) S) n
 have HP:=qq (pre_any HD [-1,-1] (by decide) (by decide) (by decide) hcx hd hg hkl hx (by decide) hd24)
 clear hcx hd hg ho hrn hx hd24 HD
 go_enter Tryz.func107,Tryz.ntmps107
 go_wp2_with fail
 refine (HP.out).mono ?_
 rintro e w3 ⟨p0,p1,p2,x,S1,n1,ov1,rfl,ha,r0,r1,r2,hgd,hd3,hm3,hx3⟩
 have HA:=qq ha;have R0:=qq r0;have R1:=qq r1;have R2:=qq r2;have HG:=qq hgd;have HD3:=qq hd3;have HM3:=qq hm3;have HX3:=qq hx3
 have HPB:Hid (Box w0 b E ov1 w3.heap.size [.int .i64 p0.k,.int .i64 p0.n,.string (tx p0.s),.int .i64 p0.x,.int .i64 p0.y,.int .i64 p1.k,.int .i64 p1.n,.string (tx p1.s),.int .i64 p1.x,.int .i64 p1.y,.int .i64 p2.k,.int .i64 p2.n,.string (tx p2.s),.int .i64 p2.x,.int .i64 p2.y] (w3.alloc (.cells #[.int .i64 p0.k,.int .i64 p0.n,.string (tx p0.s),.int .i64 p0.x,.int .i64 p0.y,.int .i64 p1.k,.int .i64 p1.n,.string (tx p1.s),.int .i64 p1.x,.int .i64 p1.y,.int .i64 p2.k,.int .i64 p2.n,.string (tx p2.s),.int .i64 p2.x,.int .i64 p2.y] 137))):=Box.made hd3 (by omega) 137 [.int .i64 p0.k,.int .i64 p0.n,.string (tx p0.s),.int .i64 p0.x,.int .i64 p0.y,.int .i64 p1.k,.int .i64 p1.n,.string (tx p1.s),.int .i64 p1.x,.int .i64 p1.y,.int .i64 p2.k,.int .i64 p2.n,.string (tx p2.s),.int .i64 p2.x,.int .i64 p2.y]
 have hlZ:=hx3.blk.lt
 clear ha r0 r1 r2 hgd hd3 hm3 hx3 HP
 obtain ⟨c0,c1,c2,c3,c4,z0,z1,z2,z3,z4,hltX9⟩:=HX3.out.fiv
 go_wp2_with fail
 refine denda (P:=bodyPost _ _ _ _ _) HD3.out HM3.out HX3.out (Nat.le_refl _) _ _ _ _ _ ?_
 clear hltX9 c0 c1 c2 c3 c4 z0 z1 z2 z3 z4 HD3 HM3 HX3
 intro w9 hd9 hm9 c0 c1 c2 c3 c4
 refine bodyPost_ret (v:=.tuple #[.agg p1,.int .i64 x]) (by simp [results,Tryz.results107,go_sem,c0,c1,c2,c3,c4]) rfl ⟨p1,x,S1,n1,ov1,rfl,by rw [HBD.out];exact HA.out.bnd fun h0 a ha _=>by obtain ⟨rfl,rfl,rfl⟩:=ha;exact ⟨_,rfl,rfl⟩,hd9,hm9⟩
theorem deed_text {d:Nat} (HD:DoC (ev d) d):DeedC d 20 100:=by
 intro w0 A c E b l S n ov w k r hcx hd hg hkl ho hrn hx hd24
 have HBD:Hid (body (ev d) (nd l k) (l.drop (k+1)) S n=bnd (prt (ev d) [-1] (l.drop (k+1))) (af 20) S n):=by show _=_;exact congrFun (congrFun (body_prt ho (by decide) (by decide) (by decide) (by decide) (by decide) (by decide)) S) n
 have HP:=qq (pre_any HD [-1] (by decide) (by decide) (by decide) hcx hd hg hkl hx (by decide) hd24)
 have HT:=qq hcx.tab
 clear hcx hd hg ho hrn hx hd24 HD
 go_enter Tryz.func100,Tryz.ntmps100
 go_wp2_with fail
 refine (HP.out).mono ?_
 rintro e w3 ⟨p0,p1,p2,x,S1,n1,ov1,rfl,ha,r0,r1,r2,hgd,hd3,hm3,hx3⟩
 have HA:=qq ha;have R0:=qq r0;have R1:=qq r1;have R2:=qq r2;have HG:=qq hgd;have HD3:=qq hd3;have HM3:=qq hm3;have HX3:=qq hx3
 have HPB:Hid (Box w0 b E ov1 w3.heap.size [.int .i64 p0.k,.int .i64 p0.n,.string (tx p0.s),.int .i64 p0.x,.int .i64 p0.y,.int .i64 p1.k,.int .i64 p1.n,.string (tx p1.s),.int .i64 p1.x,.int .i64 p1.y,.int .i64 p2.k,.int .i64 p2.n,.string (tx p2.s),.int .i64 p2.x,.int .i64 p2.y] (w3.alloc (.cells #[.int .i64 p0.k,.int .i64 p0.n,.string (tx p0.s),.int .i64 p0.x,.int .i64 p0.y,.int .i64 p1.k,.int .i64 p1.n,.string (tx p1.s),.int .i64 p1.x,.int .i64 p1.y,.int .i64 p2.k,.int .i64 p2.n,.string (tx p2.s),.int .i64 p2.x,.int .i64 p2.y] 137))):=Box.made hd3 (by omega) 137 [.int .i64 p0.k,.int .i64 p0.n,.string (tx p0.s),.int .i64 p0.x,.int .i64 p0.y,.int .i64 p1.k,.int .i64 p1.n,.string (tx p1.s),.int .i64 p1.x,.int .i64 p1.y,.int .i64 p2.k,.int .i64 p2.n,.string (tx p2.s),.int .i64 p2.x,.int .i64 p2.y]
 have hlZ:=hx3.blk.lt
 clear ha r0 r1 r2 hgd hd3 hm3 hx3 HP
 by_cases hk:p0.k=1
 · have hk1:(p0.k == 1)=true:=by simpa using hk
   have HK:=qq hk;clear hk
   obtain ⟨c0,c1,c2,c3,c4,z0,z1,z2,z3,z4,hltX9⟩:=HX3.out.fiv
   go_wp2_with fail
   refine denda (P:=bodyPost _ _ _ _ _) HD3.out HM3.out HX3.out (Nat.le_refl _) _ _ _ _ _ ?_
   clear hltX9 c0 c1 c2 c3 c4 z0 z1 z2 z3 z4 HD3 HM3 HX3
   intro w9 hd9 hm9 c0 c1 c2 c3 c4
   refine bodyPost_ret (v:=.tuple #[.agg p0,.int .i64 x]) (by simp [results,Tryz.results100,go_sem,c0,c1,c2,c3,c4]) rfl ⟨p0,x,S1,n1,ov1,rfl,by rw [HBD.out];exact HA.out.bnd fun h0 a ha _=>by obtain ⟨rfl,rfl,rfl⟩:=ha;exact ⟨at0 a,text_yes HK.out _ _,rfl⟩,hd9,hm9⟩
 · have hk1:(p0.k == 1)=false:=by simpa using hk
   have HK:=qq hk;clear hk
   have HW:=qq (fun W hT=>write_va (v:=p0) R0.out W hT)
   go_wp2_with fail
   refine (HW.out _ (HT.out.next (HD3.out.old (box1 w3 _)).fro)).mono ?_
   rintro e w4 ⟨rfl,hb⟩
   have HD4:=qq ((HD3.out.old (box1 w3 _)).old hb);have HM4:=qq ((HM3.out.old (box1 w3 _)).old hb);have HX4:=qq ((HX3.out.old (box1 w3 _)).old hb);have HPB4:=qq (HPB.out.old hb)
   clear hb HD3 HM3 HX3 HPB 
   obtain ⟨c0,c1,c2,c3,c4,z0,z1,z2,z3,z4,hltX9⟩:=HX4.out.fiv
   go_wp2_with fail
   refine (etext_any _ _).mono ?_
   rintro e w5 ⟨rfl,hb⟩
   have HD5:=qq (HD4.out.old hb);have HM5:=qq (HM4.out.old hb);have HX5:=qq (HX4.out.old hb);have HPB5:=qq (HPB4.out.old hb)
   clear hb HD4 HM4 HX4 HPB4 hltX9 c0 c1 c2 c3 c4 z0 z1 z2 z3 z4
   obtain ⟨c0,c1,c2,c3,c4,z0,z1,z2,z3,z4,hltX9⟩:=HX5.out.fiv
   go_wp2_with fail
   refine dend0 (P:=bodyPost _ _ _ _ _) HD5.out HM5.out HX5.out (Nat.le_refl _) _ _ _ _ _ ?_
   clear hltX9 c0 c1 c2 c3 c4 z0 z1 z2 z3 z4 HD5 HM5 HX5
   intro w9 hd9 hm9 c0 c1 c2 c3 c4
   refine bodyPost_ret (v:=.tuple #[.agg #[.int .i64 1,.int .i64 0,.string (tx (wr p0)),.int .i64 0,.int .i64 0],.int .i64 x]) (by simp [results,Tryz.results100,go_sem,c0,c1,c2,c3,c4]) rfl ⟨tv (wr p0),x,S1,n1,ov1,rfl,by rw [HBD.out];exact HA.out.bnd fun h0 a ha _=>by obtain ⟨rfl,rfl,rfl⟩:=ha;exact ⟨_,text_no HK.out _ _,rfl⟩,hd9,hm9⟩
end Go.Proofs.YtgakcpcpfkoaiaaGreatDoor.Ev
