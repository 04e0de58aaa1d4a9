/-
  A text of this claim: ErAp2.
-/
import Derived.Test.YtgakcpcpfkoaiaaGreatDoorQ1
import Derived.Test.YtgakcpcpfkoaiaaGreatDoorQ7
import Derived.Test.YtgakcpcpfkoaiaaGreatDoorQ5
import Derived.Test.YtgakcpcpfkoaiaaGreatDoorQEvDeed1
import Derived.Deep.Cut
set_option maxHeartbeats 4000000
set_option maxRecDepth 100000
namespace Go.Proofs.YtgakcpcpfkoaiaaGreatDoor.Ev
open Go.ChangeShapes Go.WideShapes Go.ChangeAt Go.RowKit Ov Va Ga Ex
theorem mtruth_any (b:Bool) (w:World):Calls Tryz.prog 154 #[.bool b] w (Gives (.agg #[.int .i64 0,.int .i64 (tri b),.string ⟨#[]⟩,.int .i64 0,.int .i64 0]) w):=by
 have h1:=Blk.made w 28 (vcs 0 0 ⟨#[]⟩ 0 0) rfl
 have hb1:=box1 w (.cells (vcs 0 0 ⟨#[]⟩ 0 0).toArray 28)
 have H1:=qq h1;have HB1:=qq hb1
 clear h1 hb1
 cases b
 all_goals
  go_enter Tryz.func154,Tryz.ntmps154
  go_wp2_with fail
  refine (mnum_any _ _).mono ?_
  rintro e w2 ⟨rfl,hb⟩
  have H2:=qq (H1.out.next hb)
  have HB2:=qq (Below.next HB1.out hb)
  have c0:=H2.out.v0;have c1:=H2.out.v1;have c2:=H2.out.v2;have c3:=H2.out.v3;have c4:=H2.out.v4
  have z0:=H2.out.g0;have z1:=H2.out.g1;have z2:=H2.out.g2;have z3:=H2.out.g3;have z4:=H2.out.g4
  clear hb H1 HB1
  go_wp2_with fail
 · have h3:=H2.out.all5 (.int .i64 0) (.int .i64 0) (.string ⟨#[]⟩) (.int .i64 0) (.int .i64 0)
   have hb3:=below_all5 HB2.out (b:=w.heap.size) (Nat.le_refl _) (.int .i64 0) (.int .i64 0) (.string ⟨#[]⟩) (.int .i64 0) (.int .i64 0)
   clear c0 c1 c2 c3 c4 z0 z1 z2 z3 z4
   generalize ((((w2.setCell ⟨w.heap.size,0,none⟩ (.int .i64 0)).setCell ⟨w.heap.size,1,none⟩ (.int .i64 0)).setCell ⟨w.heap.size,2,none⟩ (.string ⟨#[]⟩)).setCell ⟨w.heap.size,3,none⟩ (.int .i64 0)).setCell ⟨w.heap.size,4,none⟩ (.int .i64 0)=w4 at *
   have c0:=h3.c 0 _ rfl;have c1:=h3.c 1 _ rfl;have c2:=h3.c 2 _ rfl;have c3:=h3.c 3 _ rfl;have c4:=h3.c 4 _ rfl
   refine bodyPost_ret (v:=.agg zz) (by simp [results,Tryz.results154,go_sem,c0,c1,c2,c3,c4]) rfl ⟨rfl,hb3⟩
 · have h3:=H2.out.all5 (.int .i64 0) (.int .i64 1) (.string ⟨#[]⟩) (.int .i64 0) (.int .i64 0)
   have hb3:=below_all5 HB2.out (b:=w.heap.size) (Nat.le_refl _) (.int .i64 0) (.int .i64 1) (.string ⟨#[]⟩) (.int .i64 0) (.int .i64 0)
   clear c0 c1 c2 c3 c4 z0 z1 z2 z3 z4
   generalize ((((w2.setCell ⟨w.heap.size,0,none⟩ (.int .i64 0)).setCell ⟨w.heap.size,1,none⟩ (.int .i64 1)).setCell ⟨w.heap.size,2,none⟩ (.string ⟨#[]⟩)).setCell ⟨w.heap.size,3,none⟩ (.int .i64 0)).setCell ⟨w.heap.size,4,none⟩ (.int .i64 0)=w4 at *
   have c0:=h3.c 0 _ rfl;have c1:=h3.c 1 _ rfl;have c2:=h3.c 2 _ rfl;have c3:=h3.c 3 _ rfl;have c4:=h3.c 4 _ rfl
   refine bodyPost_ret (v:=.agg #[.int .i64 0,.int .i64 1,.string ⟨#[]⟩,.int .i64 0,.int .i64 0]) (by simp [results,Tryz.results154,go_sem,c0,c1,c2,c3,c4]) rfl ⟨rfl,hb3⟩
theorem rorder_va (p q:Va) (hp:rt p=true) (hq:rt q=true) (w:World):Calls Tryz.prog 19 #[.agg p,.agg q] w (Gives (.int .i64 (ord p q)) w):=by
 have h1:=(rt_all hp).2.1;have h2:=(rt_all hq).2.1
 have z1:=tx_size p.s;have z2:=tx_size q.s
 have h:=rorder_val p.k p.n p.x p.y q.k q.n q.x q.y (tx p.s) (tx q.s) w (by rw [tx_list];exact hp) (by rw [tx_list];exact hq) (by omega) (by omega)
 rw [tx_list,tx_list] at h
 exact h
theorem rwrite_va (p:Va) (hp:rt p=true) (w:World):Calls Tryz.prog 156 #[.agg p] w (Gives (.string (tx (wr p))) w):=by
 have h:=rwrite_yes (k:=p.k) (n:=p.n) (x:=p.x) (y:=p.y) (s:=tx p.s) (by rw [tx_list];exact hp) w
 rw [tx_list] at h
 exact h
theorem map_less {w0:World} {A:Option Addr} {c E b n:Nat} {l:List No} {S:St} {ov:Value} {w:World} {L cap:Nat} (p q:Va) (hp:rt p=true) (hq:rt q=true) (hv:Vs w L [p,q]) (hd:Mac w0 A c E b l S n 0 ov w) (hl:0<l.length):Calls Tryz.prog 114 #[.pointer (some ⟨b,0,none⟩),.string ⟨#[108,101,115,115]⟩,.slice (some ⟨L,0,none⟩) 2 cap] w (Rn (ap 8 [p,q] S n) w0 A c E b l ov w):=by
 have HF:=qq (fun (x:Int) (hx:x ≠ 0) w1 (h:Mac w0 A c E b l S n 0 ov w1)=>mfail_at x hx h)
 have hl0:Hid (0<l.length):=hl
 have HOR:=qq (rorder_va p q hp hq)
 clear hp hq
 by_cases hk:p.k=q.k
 · have hk1:(p.k != q.k)=false:=by simpa using hk
   have HAP:Hid (ap 8 [p,q] S n=.ok (nv (tri (decide (ord p q<0)))) S n):=by show lift (if p.k ≠ q.k then .inl 13 else .inr (tr (decide (ord p q<0)))) S n=_;rw [if_neg (fun e=>e hk),← tr_tri];rfl
   clear hk
   generalize ord p q=z at *
   obtain ⟨l0,l1,l2,l3,l4,hLlt⟩:=hv.p1
   obtain ⟨l5,l6,l7,l8,l9⟩:=hv.p2
   obtain ⟨w1,hw1,hd1,hm1,hbel,hsz,hbX,hbA,hbB⟩:=mbox3 hd hl 28 zz 28 p 28 q
   have HD1:=qq hd1;have HM1:=qq hm1;have HW1:=qq hw1;have HX1:=qq hbX;have HA1:=qq hbA;have HB1:=qq hbB
   have HL1:=qq (hv.next hbel);clear hv
   clear hd hd1 hm1 hbel hsz hw1 hbX hbA hbB
   go_enter Tryz.func114,Tryz.ntmps114
   go_wp2_with fail
   rw [HW1.out]
   clear l0 l1 l2 l3 l4 l5 l6 l7 l8 l9 hLlt 
   refine (HOR.out _).mono ?_
   rintro e w2 ⟨rfl,hb⟩
   have HD2:=qq (HD1.out.old hb)
   have HM2:=qq (HM1.out.old hb)
   have HX2:=qq (HX1.out.old hb)
   have HA2:=qq (HA1.out.old hb)
   have HB2:=qq (HB1.out.old hb)
   clear hb HD1 HM1 HX1 HA1 HB1  HL1
   go_wp2_with fail
   refine (mtruth_any _ _).mono ?_
   rintro e w3 ⟨rfl,hb⟩
   have HD3:=qq (HD2.out.old hb)
   have HM3:=qq (HM2.out.old hb)
   have HX3:=qq (HX2.out.old hb)
   have HA3:=qq (HA2.out.old hb)
   have HB3:=qq (HB2.out.old hb)
   clear hb HD2 HM2 HX2 HA2 HB2  
   obtain ⟨cX0,cX1,cX2,cX3,cX4,zX0,zX1,zX2,zX3,zX4,hltX⟩:=HX3.out.five
   go_wp2_with fail
   refine mend (P:=bodyPost _ _ _ _ _) HD3.out HM3.out HX3.out (by omega) _ _ _ _ _ ?_
   clear HD3 HM3 HX3 HA3 HB3 cX0 cX1 cX2 cX3 cX4 zX0 zX1 zX2 zX3 zX4
   intro w9 hd9 hm9 c0 c1 c2 c3 c4
   refine bodyPost_ret (v:=.agg #[.int .i64 0,.int .i64 (tri (decide (z<0))),.string ⟨#[]⟩,.int .i64 0,.int .i64 0]) (by simp [results,Tryz.results114,go_sem,c0,c1,c2,c3,c4]) rfl ⟨nv (tri (decide (z<0))),0,S,n,ov,rfl,Ans.ok (HAP.out) rfl,fun h=>absurd rfl h,hd9,hm9⟩
 · have hk1:(p.k != q.k)=true:=by simpa using hk
   have HAP:Hid (ap 8 [p,q] S n=.er 13):=by show lift (if p.k ≠ q.k then .inl 13 else _) S n=_;rw [if_pos hk];rfl
   clear hk HOR
   obtain ⟨l0,l1,l2,l3,l4,hLlt⟩:=hv.p1
   obtain ⟨l5,l6,l7,l8,l9⟩:=hv.p2
   obtain ⟨w1,hw1,hd1,hm1,hbel,hsz,hbX,hbA,hbB⟩:=mbox3 hd hl 28 zz 28 p 28 q
   have HD1:=qq hd1;have HM1:=qq hm1;have HW1:=qq hw1;have HX1:=qq hbX;have HA1:=qq hbA;have HB1:=qq hbB
   have HL1:=qq (hv.next hbel);clear hv
   clear hd hd1 hm1 hbel hsz hw1 hbX hbA hbB
   go_enter Tryz.func114,Tryz.ntmps114
   go_wp2_with fail
   rw [HW1.out]
   clear l0 l1 l2 l3 l4 l5 l6 l7 l8 l9 hLlt 
   refine (HF.out 13 (by decide) _ HD1.out).mono ?_
   rintro e w2 ⟨rfl,hd3,hm3⟩
   have HD2:=qq hd3;have HM2:=qq (HM1.out.trans hm3);have HX2:=qq (HX1.out.mv hm3)
   clear hd3 hm3 HD1 HM1 HX1 HA1 HB1  HL1
   obtain ⟨cX0,cX1,cX2,cX3,cX4,zX0,zX1,zX2,zX3,zX4,hltX⟩:=HX2.out.five
   go_wp2_with fail
   refine mend (P:=bodyPost _ _ _ _ _) HD2.out HM2.out HX2.out (by omega) _ _ _ _ _ ?_
   clear HD2 HM2 HX2 cX0 cX1 cX2 cX3 cX4 zX0 zX1 zX2 zX3 zX4
   intro w9 hd9 hm9 c0 c1 c2 c3 c4
   refine bodyPost_ret (v:=.agg zz) (by simp [results,Tryz.results114,go_sem,c0,c1,c2,c3,c4]) rfl ⟨vz,13,S,n,ov,rfl,by rw [HAP.out];exact Ans.er rfl rfl (by decide),fun _=>rfl,hd9,hm9⟩
theorem map_max {w0:World} {A:Option Addr} {c E b n:Nat} {l:List No} {S:St} {ov:Value} {w:World} {L cap:Nat} (p q:Va) (hp:rt p=true) (hq:rt q=true) (hv:Vs w L [p,q]) (hd:Mac w0 A c E b l S n 0 ov w) (hl:0<l.length):Calls Tryz.prog 114 #[.pointer (some ⟨b,0,none⟩),.string ⟨#[109,97,120]⟩,.slice (some ⟨L,0,none⟩) 2 cap] w (Rn (ap 12 [p,q] S n) w0 A c E b l ov w):=by
 have HF:=qq (fun (x:Int) (hx:x ≠ 0) w1 (h:Mac w0 A c E b l S n 0 ov w1)=>mfail_at x hx h)
 have hl0:Hid (0<l.length):=hl
 have HOR:=qq (rorder_va p q hp hq)
 clear hp hq
 by_cases hk:p.k=q.k
 · have hk1:(p.k != q.k)=false:=by simpa using hk
   have HAP:Hid (ap 12 [p,q] S n=.ok (if 0<ord p q then p else q) S n):=by show lift (if p.k ≠ q.k then .inl 13 else .inr (if 0<ord p q then p else q)) S n=_;rw [if_neg (fun e=>e hk)];rfl
   clear hk
   generalize ord p q=z at *
   obtain ⟨l0,l1,l2,l3,l4,hLlt⟩:=hv.p1
   obtain ⟨l5,l6,l7,l8,l9⟩:=hv.p2
   obtain ⟨w1,hw1,hd1,hm1,hbel,hsz,hbX,hbA,hbB⟩:=mbox3 hd hl 28 zz 28 p 28 q
   have HD1:=qq hd1;have HM1:=qq hm1;have HW1:=qq hw1;have HX1:=qq hbX;have HA1:=qq hbA;have HB1:=qq hbB
   have HL1:=qq (hv.next hbel);clear hv
   clear hd hd1 hm1 hbel hsz hw1 hbX hbA hbB
   go_enter Tryz.func114,Tryz.ntmps114
   go_wp2_with fail
   rw [HW1.out]
   clear l0 l1 l2 l3 l4 l5 l6 l7 l8 l9 hLlt 
   refine (HOR.out _).mono ?_
   rintro e w2 ⟨rfl,hb⟩
   have HD2:=qq (HD1.out.old hb)
   have HM2:=qq (HM1.out.old hb)
   have HX2:=qq (HX1.out.old hb)
   have HA2:=qq (HA1.out.old hb)
   have HB2:=qq (HB1.out.old hb)
   clear hb HD1 HM1 HX1 HA1 HB1  HL1
   by_cases hz:0<z
   · skip
     have HAQ:Hid (ap 12 [p,q] S n=.ok p S n):=by show _=_;rw [HAP.out,if_pos hz]
     obtain ⟨qA0,qA1,qA2,qA3,qA4⟩:=ck5 HA2.out.blk
     obtain ⟨cX0,cX1,cX2,cX3,cX4,zX0,zX1,zX2,zX3,zX4,hltX⟩:=HX2.out.five
     go_wp2_with fail
     refine mend (P:=bodyPost _ _ _ _ _) HD2.out HM2.out HX2.out (by omega) _ _ _ _ _ ?_
     clear HD2 HM2 HX2 HA2 HB2 qA0 qA1 qA2 qA3 qA4 cX0 cX1 cX2 cX3 cX4 zX0 zX1 zX2 zX3 zX4
     intro w9 hd9 hm9 c0 c1 c2 c3 c4
     refine bodyPost_ret (v:=.agg p) (by simp [results,Tryz.results114,go_sem,c0,c1,c2,c3,c4]) rfl ⟨p,0,S,n,ov,rfl,Ans.ok (HAQ.out) rfl,fun h=>absurd rfl h,hd9,hm9⟩
   · skip
     have HAQ:Hid (ap 12 [p,q] S n=.ok q S n):=by show _=_;rw [HAP.out,if_neg hz]
     obtain ⟨qB0,qB1,qB2,qB3,qB4⟩:=ck5 HB2.out.blk
     obtain ⟨cX0,cX1,cX2,cX3,cX4,zX0,zX1,zX2,zX3,zX4,hltX⟩:=HX2.out.five
     go_wp2_with fail
     refine mend (P:=bodyPost _ _ _ _ _) HD2.out HM2.out HX2.out (by omega) _ _ _ _ _ ?_
     clear HD2 HM2 HX2 HA2 HB2 qB0 qB1 qB2 qB3 qB4 cX0 cX1 cX2 cX3 cX4 zX0 zX1 zX2 zX3 zX4
     intro w9 hd9 hm9 c0 c1 c2 c3 c4
     refine bodyPost_ret (v:=.agg q) (by simp [results,Tryz.results114,go_sem,c0,c1,c2,c3,c4]) rfl ⟨q,0,S,n,ov,rfl,Ans.ok (HAQ.out) rfl,fun h=>absurd rfl h,hd9,hm9⟩
 · have hk1:(p.k != q.k)=true:=by simpa using hk
   have HAP:Hid (ap 12 [p,q] S n=.er 13):=by show lift (if p.k ≠ q.k then .inl 13 else _) S n=_;rw [if_pos hk];rfl
   clear hk HOR
   obtain ⟨l0,l1,l2,l3,l4,hLlt⟩:=hv.p1
   obtain ⟨l5,l6,l7,l8,l9⟩:=hv.p2
   obtain ⟨w1,hw1,hd1,hm1,hbel,hsz,hbX,hbA,hbB⟩:=mbox3 hd hl 28 zz 28 p 28 q
   have HD1:=qq hd1;have HM1:=qq hm1;have HW1:=qq hw1;have HX1:=qq hbX;have HA1:=qq hbA;have HB1:=qq hbB
   have HL1:=qq (hv.next hbel);clear hv
   clear hd hd1 hm1 hbel hsz hw1 hbX hbA hbB
   go_enter Tryz.func114,Tryz.ntmps114
   go_wp2_with fail
   rw [HW1.out]
   clear l0 l1 l2 l3 l4 l5 l6 l7 l8 l9 hLlt 
   refine (HF.out 13 (by decide) _ HD1.out).mono ?_
   rintro e w2 ⟨rfl,hd3,hm3⟩
   have HD2:=qq hd3;have HM2:=qq (HM1.out.trans hm3);have HX2:=qq (HX1.out.mv hm3)
   clear hd3 hm3 HD1 HM1 HX1 HA1 HB1  HL1
   obtain ⟨cX0,cX1,cX2,cX3,cX4,zX0,zX1,zX2,zX3,zX4,hltX⟩:=HX2.out.five
   go_wp2_with fail
   refine mend (P:=bodyPost _ _ _ _ _) HD2.out HM2.out HX2.out (by omega) _ _ _ _ _ ?_
   clear HD2 HM2 HX2 cX0 cX1 cX2 cX3 cX4 zX0 zX1 zX2 zX3 zX4
   intro w9 hd9 hm9 c0 c1 c2 c3 c4
   refine bodyPost_ret (v:=.agg zz) (by simp [results,Tryz.results114,go_sem,c0,c1,c2,c3,c4]) rfl ⟨vz,13,S,n,ov,rfl,by rw [HAP.out];exact Ans.er rfl rfl (by decide),fun _=>rfl,hd9,hm9⟩
theorem map_min {w0:World} {A:Option Addr} {c E b n:Nat} {l:List No} {S:St} {ov:Value} {w:World} {L cap:Nat} (p q:Va) (hp:rt p=true) (hq:rt q=true) (hv:Vs w L [p,q]) (hd:Mac w0 A c E b l S n 0 ov w) (hl:0<l.length):Calls Tryz.prog 114 #[.pointer (some ⟨b,0,none⟩),.string ⟨#[109,105,110]⟩,.slice (some ⟨L,0,none⟩) 2 cap] w (Rn (ap 13 [p,q] S n) w0 A c E b l ov w):=by
 have HF:=qq (fun (x:Int) (hx:x ≠ 0) w1 (h:Mac w0 A c E b l S n 0 ov w1)=>mfail_at x hx h)
 have hl0:Hid (0<l.length):=hl
 have HOR:=qq (rorder_va p q hp hq)
 have HZQ:=qq (ord_zero p q)
 clear hp hq
 by_cases hk:p.k=q.k
 · have hk1:(p.k != q.k)=false:=by simpa using hk
   have HAP:Hid (ap 13 [p,q] S n=.ok (if 0<ord p q then q else p) S n):=by show lift (if p.k ≠ q.k then .inl 13 else .inr (if 0<ord p q then q else p)) S n=_;rw [if_neg (fun e=>e hk)];rfl
   clear hk
   generalize ord p q=z at *
   obtain ⟨l0,l1,l2,l3,l4,hLlt⟩:=hv.p1
   obtain ⟨l5,l6,l7,l8,l9⟩:=hv.p2
   obtain ⟨w1,hw1,hd1,hm1,hbel,hsz,hbX,hbA,hbB⟩:=mbox3 hd hl 28 zz 28 p 28 q
   have HD1:=qq hd1;have HM1:=qq hm1;have HW1:=qq hw1;have HX1:=qq hbX;have HA1:=qq hbA;have HB1:=qq hbB
   have HL1:=qq (hv.next hbel);clear hv
   clear hd hd1 hm1 hbel hsz hw1 hbX hbA hbB
   go_enter Tryz.func114,Tryz.ntmps114
   go_wp2_with fail
   rw [HW1.out]
   clear l0 l1 l2 l3 l4 l5 l6 l7 l8 l9 hLlt 
   refine (HOR.out _).mono ?_
   rintro e w2 ⟨rfl,hb⟩
   have HD2:=qq (HD1.out.old hb)
   have HM2:=qq (HM1.out.old hb)
   have HX2:=qq (HX1.out.old hb)
   have HA2:=qq (HA1.out.old hb)
   have HB2:=qq (HB1.out.old hb)
   clear hb HD1 HM1 HX1 HA1 HB1  HL1
   by_cases hz:z<0
   · skip
     have HAQ:Hid (ap 13 [p,q] S n=.ok p S n):=by show _=_;rw [HAP.out,if_neg (by omega)]
     obtain ⟨qA0,qA1,qA2,qA3,qA4⟩:=ck5 HA2.out.blk
     obtain ⟨cX0,cX1,cX2,cX3,cX4,zX0,zX1,zX2,zX3,zX4,hltX⟩:=HX2.out.five
     go_wp2_with fail
     refine mend (P:=bodyPost _ _ _ _ _) HD2.out HM2.out HX2.out (by omega) _ _ _ _ _ ?_
     clear HD2 HM2 HX2 HA2 HB2 qA0 qA1 qA2 qA3 qA4 cX0 cX1 cX2 cX3 cX4 zX0 zX1 zX2 zX3 zX4
     intro w9 hd9 hm9 c0 c1 c2 c3 c4
     refine bodyPost_ret (v:=.agg p) (by simp [results,Tryz.results114,go_sem,c0,c1,c2,c3,c4]) rfl ⟨p,0,S,n,ov,rfl,Ans.ok (HAQ.out) rfl,fun h=>absurd rfl h,hd9,hm9⟩
   · skip
     have HAQ:Hid (ap 13 [p,q] S n=.ok q S n):=by
      show _=_
      rw [HAP.out]
      by_cases h0:0<z
      · rw [if_pos h0]
      · rw [if_neg h0,HZQ.out.1 (by omega)]
     obtain ⟨qB0,qB1,qB2,qB3,qB4⟩:=ck5 HB2.out.blk
     obtain ⟨cX0,cX1,cX2,cX3,cX4,zX0,zX1,zX2,zX3,zX4,hltX⟩:=HX2.out.five
     go_wp2_with fail
     refine mend (P:=bodyPost _ _ _ _ _) HD2.out HM2.out HX2.out (by omega) _ _ _ _ _ ?_
     clear HD2 HM2 HX2 HA2 HB2 qB0 qB1 qB2 qB3 qB4 cX0 cX1 cX2 cX3 cX4 zX0 zX1 zX2 zX3 zX4
     intro w9 hd9 hm9 c0 c1 c2 c3 c4
     refine bodyPost_ret (v:=.agg q) (by simp [results,Tryz.results114,go_sem,c0,c1,c2,c3,c4]) rfl ⟨q,0,S,n,ov,rfl,Ans.ok (HAQ.out) rfl,fun h=>absurd rfl h,hd9,hm9⟩
 · have hk1:(p.k != q.k)=true:=by simpa using hk
   have HAP:Hid (ap 13 [p,q] S n=.er 13):=by show lift (if p.k ≠ q.k then .inl 13 else _) S n=_;rw [if_pos hk];rfl
   clear hk HOR
   obtain ⟨l0,l1,l2,l3,l4,hLlt⟩:=hv.p1
   obtain ⟨l5,l6,l7,l8,l9⟩:=hv.p2
   obtain ⟨w1,hw1,hd1,hm1,hbel,hsz,hbX,hbA,hbB⟩:=mbox3 hd hl 28 zz 28 p 28 q
   have HD1:=qq hd1;have HM1:=qq hm1;have HW1:=qq hw1;have HX1:=qq hbX;have HA1:=qq hbA;have HB1:=qq hbB
   have HL1:=qq (hv.next hbel);clear hv
   clear hd hd1 hm1 hbel hsz hw1 hbX hbA hbB
   go_enter Tryz.func114,Tryz.ntmps114
   go_wp2_with fail
   rw [HW1.out]
   clear l0 l1 l2 l3 l4 l5 l6 l7 l8 l9 hLlt 
   refine (HF.out 13 (by decide) _ HD1.out).mono ?_
   rintro e w2 ⟨rfl,hd3,hm3⟩
   have HD2:=qq hd3;have HM2:=qq (HM1.out.trans hm3);have HX2:=qq (HX1.out.mv hm3)
   clear hd3 hm3 HD1 HM1 HX1 HA1 HB1  HL1
   obtain ⟨cX0,cX1,cX2,cX3,cX4,zX0,zX1,zX2,zX3,zX4,hltX⟩:=HX2.out.five
   go_wp2_with fail
   refine mend (P:=bodyPost _ _ _ _ _) HD2.out HM2.out HX2.out (by omega) _ _ _ _ _ ?_
   clear HD2 HM2 HX2 cX0 cX1 cX2 cX3 cX4 zX0 zX1 zX2 zX3 zX4
   intro w9 hd9 hm9 c0 c1 c2 c3 c4
   refine bodyPost_ret (v:=.agg zz) (by simp [results,Tryz.results114,go_sem,c0,c1,c2,c3,c4]) rfl ⟨vz,13,S,n,ov,rfl,by rw [HAP.out];exact Ans.er rfl rfl (by decide),fun _=>rfl,hd9,hm9⟩
theorem map_same {w0:World} {A:Option Addr} {c E b n:Nat} {l:List No} {S:St} {ov:Value} {w:World} {L cap:Nat} (p q:Va) (_hp:rt p=true) (_hq:rt q=true) (hv:Vs w L [p,q]) (hd:Mac w0 A c E b l S n 0 ov w) (hl:0<l.length):Calls Tryz.prog 114 #[.pointer (some ⟨b,0,none⟩),.string ⟨#[115,97,109,101]⟩,.slice (some ⟨L,0,none⟩) 2 cap] w (Rn (ap 9 [p,q] S n) w0 A c E b l ov w):=by
 have HAP:Hid (ap 9 [p,q] S n=.ok (nv (tri (decide (p=q)))) S n):=by show lift (.inr (tr (decide (p=q)))) S n=_;rw [tr_tri];rfl
 have heq:∀ W,(binOp .eql 28 (.agg p) (.agg q)).run Tryz.prog W=.ok (.bool (decide (p=q))) W:=fun W=>eql_va p q W
 obtain ⟨l0,l1,l2,l3,l4,hLlt⟩:=hv.p1
 obtain ⟨l5,l6,l7,l8,l9⟩:=hv.p2
 obtain ⟨w1,hw1,hd1,hm1,hbel,hsz,hbX,hbA,hbB⟩:=mbox3 hd hl 28 zz 28 p 28 q
 have HD1:=qq hd1;have HM1:=qq hm1;have HW1:=qq hw1;have HX1:=qq hbX;have HA1:=qq hbA;have HB1:=qq hbB
 have HL1:=qq (hv.next hbel);clear hv
 clear hd hd1 hm1 hbel hsz hw1 hbX hbA hbB
 go_enter Tryz.func114,Tryz.ntmps114
 go_wp2_with fail
 rw [HW1.out]
 clear l0 l1 l2 l3 l4 l5 l6 l7 l8 l9 hLlt 
 clear heq
 refine (mtruth_any _ _).mono ?_
 rintro e w2 ⟨rfl,hb⟩
 have HD2:=qq (HD1.out.old hb)
 have HM2:=qq (HM1.out.old hb)
 have HX2:=qq (HX1.out.old hb)
 have HA2:=qq (HA1.out.old hb)
 have HB2:=qq (HB1.out.old hb)
 clear hb HD1 HM1 HX1 HA1 HB1  HL1
 obtain ⟨cX0,cX1,cX2,cX3,cX4,zX0,zX1,zX2,zX3,zX4,hltX⟩:=HX2.out.five
 go_wp2_with fail
 refine mend (P:=bodyPost _ _ _ _ _) HD2.out HM2.out HX2.out (by omega) _ _ _ _ _ ?_
 clear HD2 HM2 HX2 HA2 HB2 cX0 cX1 cX2 cX3 cX4 zX0 zX1 zX2 zX3 zX4
 intro w9 hd9 hm9 c0 c1 c2 c3 c4
 refine bodyPost_ret (v:=.agg #[.int .i64 0,.int .i64 (tri (decide (p=q))),.string ⟨#[]⟩,.int .i64 0,.int .i64 0]) (by simp [results,Tryz.results114,go_sem,c0,c1,c2,c3,c4]) rfl ⟨nv (tri (decide (p=q))),0,S,n,ov,rfl,Ans.ok (HAP.out) rfl,fun h=>absurd rfl h,hd9,hm9⟩
theorem map_then {w0:World} {A:Option Addr} {c E b n:Nat} {l:List No} {S:St} {ov:Value} {w:World} {L cap:Nat} (p q:Va) (_hp:rt p=true) (_hq:rt q=true) (hv:Vs w L [p,q]) (hd:Mac w0 A c E b l S n 0 ov w) (hl:0<l.length):Calls Tryz.prog 114 #[.pointer (some ⟨b,0,none⟩),.string ⟨#[116,104,101,110]⟩,.slice (some ⟨L,0,none⟩) 2 cap] w (Rn (ap 27 [p,q] S n) w0 A c E b l ov w):=by
 have HAP:Hid (ap 27 [p,q] S n=.ok q S n):=by show _=_;rfl
 obtain ⟨l0,l1,l2,l3,l4,hLlt⟩:=hv.p1
 obtain ⟨l5,l6,l7,l8,l9⟩:=hv.p2
 obtain ⟨w1,hw1,hd1,hm1,hbel,hsz,hbX,hbA,hbB⟩:=mbox3 hd hl 28 zz 28 p 28 q
 have HD1:=qq hd1;have HM1:=qq hm1;have HW1:=qq hw1;have HX1:=qq hbX;have HA1:=qq hbA;have HB1:=qq hbB
 have HL1:=qq (hv.next hbel);clear hv
 clear hd hd1 hm1 hbel hsz hw1 hbX hbA hbB
 go_enter Tryz.func114,Tryz.ntmps114
 go_upto_region 28 with fail
 rw [HW1.out]
 clear l0 l1 l2 l3 l4 l5 l6 l7 l8 l9 hLlt 
 clear HL1
 obtain ⟨qB0,qB1,qB2,qB3,qB4⟩:=ck5 HB1.out.blk
 obtain ⟨cX0,cX1,cX2,cX3,cX4,zX0,zX1,zX2,zX3,zX4,hltX⟩:=HX1.out.five
 go_wp2_with fail
 refine mend (P:=bodyPost _ _ _ _ _) HD1.out HM1.out HX1.out (by omega) _ _ _ _ _ ?_
 clear HD1 HM1 HX1 HA1 HB1 qB0 qB1 qB2 qB3 qB4 cX0 cX1 cX2 cX3 cX4 zX0 zX1 zX2 zX3 zX4
 intro w9 hd9 hm9 c0 c1 c2 c3 c4
 refine bodyPost_ret (v:=.agg q) (by simp [results,Tryz.results114,go_sem,c0,c1,c2,c3,c4]) rfl ⟨q,0,S,n,ov,rfl,Ans.ok (HAP.out) rfl,fun h=>absurd rfl h,hd9,hm9⟩
theorem map_text {w0:World} {A:Option Addr} {c E b n:Nat} {l:List No} {S:St} {ov:Value} {w:World} {L cap:Nat} (p:Va) (hp:rt p=true) (hv:Vs w L [p]) (hd:Mac w0 A c E b l S n 0 ov w) (hl:0<l.length):Calls Tryz.prog 114 #[.pointer (some ⟨b,0,none⟩),.string ⟨#[116,101,120,116]⟩,.slice (some ⟨L,0,none⟩) 1 cap] w (Rn (ap 20 [p] S n) w0 A c E b l ov w):=by
 have HWR:=qq (rwrite_va p hp);clear hp
 by_cases hk:p.k=1
 · have hk1:(p.k == 1)=true:=by simpa using hk
   have HAP:Hid (ap 20 [p] S n=.ok p S n):=text_yes (l:=[p]) hk S n
   clear hk HWR
   obtain ⟨l0,l1,l2,l3,l4,hLlt⟩:=hv.p1
   obtain ⟨w1,hw1,hd1,hm1,hbel,hsz,hbX,hbA,hbB⟩:=mbox3 hd hl 28 zz 28 p 28 p
   have HD1:=qq hd1;have HM1:=qq hm1;have HW1:=qq hw1;have HX1:=qq hbX;have HA1:=qq hbA;have HB1:=qq hbB
   have HL1:=qq (hv.next hbel);clear hv
   clear hd hd1 hm1 hbel hsz hw1 hbX hbA hbB
   go_enter Tryz.func114,Tryz.ntmps114
   go_upto_region 65 with fail
   rw [HW1.out]
   clear l0 l1 l2 l3 l4 hLlt 
   clear HL1
   obtain ⟨qA0,qA1,qA2,qA3,qA4⟩:=ck5 HA1.out.blk
   obtain ⟨cX0,cX1,cX2,cX3,cX4,zX0,zX1,zX2,zX3,zX4,hltX⟩:=HX1.out.five
   go_wp2_with fail
   refine mend (P:=bodyPost _ _ _ _ _) HD1.out HM1.out HX1.out (by omega) _ _ _ _ _ ?_
   clear HD1 HM1 HX1 HA1 HB1 qA0 qA1 qA2 qA3 qA4 cX0 cX1 cX2 cX3 cX4 zX0 zX1 zX2 zX3 zX4
   intro w9 hd9 hm9 c0 c1 c2 c3 c4
   refine bodyPost_ret (v:=.agg p) (by simp [results,Tryz.results114,go_sem,c0,c1,c2,c3,c4]) rfl ⟨p,0,S,n,ov,rfl,Ans.ok (HAP.out) rfl,fun h=>absurd rfl h,hd9,hm9⟩
 · have hk1:(p.k == 1)=false:=by simpa using hk
   have HAP:Hid (ap 20 [p] S n=.ok (tv (wr p)) S n):=text_no (l:=[p]) hk S n
   clear hk
   obtain ⟨l0,l1,l2,l3,l4,hLlt⟩:=hv.p1
   obtain ⟨w1,hw1,hd1,hm1,hbel,hsz,hbX,hbA,hbB⟩:=mbox3 hd hl 28 zz 28 p 28 p
   have HD1:=qq hd1;have HM1:=qq hm1;have HW1:=qq hw1;have HX1:=qq hbX;have HA1:=qq hbA;have HB1:=qq hbB
   have HL1:=qq (hv.next hbel);clear hv
   clear hd hd1 hm1 hbel hsz hw1 hbX hbA hbB
   go_enter Tryz.func114,Tryz.ntmps114
   go_wp2_with fail
   rw [HW1.out]
   clear l0 l1 l2 l3 l4 hLlt 
   refine (HWR.out _).mono ?_
   rintro e w2 ⟨rfl,hb⟩
   have HD2:=qq (HD1.out.old hb)
   have HM2:=qq (HM1.out.old hb)
   have HX2:=qq (HX1.out.old hb)
   have HA2:=qq (HA1.out.old hb)
   have HB2:=qq (HB1.out.old hb)
   clear hb HD1 HM1 HX1 HA1 HB1  HL1
   go_wp2_with fail
   refine (mtext_any _ _).mono ?_
   rintro e w3 ⟨rfl,hb⟩
   have HD3:=qq (HD2.out.old hb)
   have HM3:=qq (HM2.out.old hb)
   have HX3:=qq (HX2.out.old hb)
   have HA3:=qq (HA2.out.old hb)
   have HB3:=qq (HB2.out.old hb)
   clear hb HD2 HM2 HX2 HA2 HB2  
   obtain ⟨cX0,cX1,cX2,cX3,cX4,zX0,zX1,zX2,zX3,zX4,hltX⟩:=HX3.out.five
   go_wp2_with fail
   refine mend (P:=bodyPost _ _ _ _ _) HD3.out HM3.out HX3.out (by omega) _ _ _ _ _ ?_
   clear HD3 HM3 HX3 HA3 HB3 cX0 cX1 cX2 cX3 cX4 zX0 zX1 zX2 zX3 zX4
   intro w9 hd9 hm9 c0 c1 c2 c3 c4
   refine bodyPost_ret (v:=.agg #[.int .i64 1,.int .i64 0,.string (tx (wr p)),.int .i64 0,.int .i64 0]) (by simp [results,Tryz.results114,go_sem,c0,c1,c2,c3,c4]) rfl ⟨tv (wr p),0,S,n,ov,rfl,Ans.ok (HAP.out) rfl,fun h=>absurd rfl h,hd9,hm9⟩
end Go.Proofs.YtgakcpcpfkoaiaaGreatDoor.Ev
