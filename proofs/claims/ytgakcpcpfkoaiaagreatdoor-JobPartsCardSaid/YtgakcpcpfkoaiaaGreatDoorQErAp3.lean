/-
  A text of this claim: ErAp3.
-/
import Derived.Test.YtgakcpcpfkoaiaaGreatDoorQ1
import Derived.Test.YtgakcpcpfkoaiaaGreatDoorQErAp2
import Derived.Test.YtgakcpcpfkoaiaaGreatDoorQ4
set_option maxHeartbeats 4000000
set_option maxRecDepth 100000
namespace Go.Proofs.YtgakcpcpfkoaiaaGreatDoor.Ev
open Go.ChangeShapes Go.WideShapes Go.ChangeAt Go.RowKit Ov Va Ga Ex
theorem mstr_none_neg {w0:World} {A:Option Addr} {c E b n L cap m:Nat} {l:List No} {S:St} {xe:Int} {ov:Value} {w:World} (hd:Mac w0 A c E b l S n xe ov w) (hl:0<l.length):Calls Tryz.prog 157 #[.pointer (some ⟨b,0,none⟩),.string ⟨#[110,101,103]⟩,.slice (some ⟨L,0,none⟩) m cap] w (Fl xe w0 A c E b l S n ov w):=by
 obtain ⟨w1,hw1,hd1,hm1,hbel,hsz,hbX,hbK⟩:=mbox2 hd hl 28 zz 3 [.int .i64 1]
 have HD1:=qq hd1;have HM1:=qq hm1;have HW1:=qq hw1;have HX1:=qq hbX
 clear hd hd1 hm1 hbel hsz hw1 hbX hbK hl
 go_enter Tryz.func157,Tryz.ntmps157
 go_wp2_with fail
 rw [HW1.out]
 obtain ⟨c0,c1,c2,c3,c4⟩:=ck5 HX1.out.blk
 refine bodyPost_ret (v:=.agg zz) (by simp [results,Tryz.results157,go_sem,c0,c1,c2,c3,c4]) rfl ⟨rfl,HD1.out,HM1.out⟩
theorem mstr_none_not {w0:World} {A:Option Addr} {c E b n L cap m:Nat} {l:List No} {S:St} {xe:Int} {ov:Value} {w:World} (hd:Mac w0 A c E b l S n xe ov w) (hl:0<l.length):Calls Tryz.prog 157 #[.pointer (some ⟨b,0,none⟩),.string ⟨#[110,111,116]⟩,.slice (some ⟨L,0,none⟩) m cap] w (Fl xe w0 A c E b l S n ov w):=by
 obtain ⟨w1,hw1,hd1,hm1,hbel,hsz,hbX,hbK⟩:=mbox2 hd hl 28 zz 3 [.int .i64 1]
 have HD1:=qq hd1;have HM1:=qq hm1;have HW1:=qq hw1;have HX1:=qq hbX
 clear hd hd1 hm1 hbel hsz hw1 hbX hbK hl
 go_enter Tryz.func157,Tryz.ntmps157
 go_wp2_with fail
 rw [HW1.out]
 obtain ⟨c0,c1,c2,c3,c4⟩:=ck5 HX1.out.blk
 refine bodyPost_ret (v:=.agg zz) (by simp [results,Tryz.results157,go_sem,c0,c1,c2,c3,c4]) rfl ⟨rfl,HD1.out,HM1.out⟩
theorem mstr_none_at {w0:World} {A:Option Addr} {c E b n L cap m:Nat} {l:List No} {S:St} {xe:Int} {ov:Value} {w:World} (hd:Mac w0 A c E b l S n xe ov w) (hl:0<l.length):Calls Tryz.prog 157 #[.pointer (some ⟨b,0,none⟩),.string ⟨#[97,116]⟩,.slice (some ⟨L,0,none⟩) m cap] w (Fl xe w0 A c E b l S n ov w):=by
 obtain ⟨w1,hw1,hd1,hm1,hbel,hsz,hbX,hbK⟩:=mbox2 hd hl 28 zz 3 [.int .i64 1]
 have HD1:=qq hd1;have HM1:=qq hm1;have HW1:=qq hw1;have HX1:=qq hbX
 clear hd hd1 hm1 hbel hsz hw1 hbX hbK hl
 go_enter Tryz.func157,Tryz.ntmps157
 go_wp2_with fail
 rw [HW1.out]
 obtain ⟨c0,c1,c2,c3,c4⟩:=ck5 HX1.out.blk
 refine bodyPost_ret (v:=.agg zz) (by simp [results,Tryz.results157,go_sem,c0,c1,c2,c3,c4]) rfl ⟨rfl,HD1.out,HM1.out⟩
theorem map_neg {w0:World} {A:Option Addr} {c E b n:Nat} {l:List No} {S:St} {ov:Value} {w:World} {L cap:Nat} (p:Va) (hp:rt p=true) (hv:Vs w L [p]) (hd:Mac w0 A c E b l S n 0 ov w) (hl:0<l.length):Calls Tryz.prog 114 #[.pointer (some ⟨b,0,none⟩),.string ⟨#[110,101,103]⟩,.slice (some ⟨L,0,none⟩) 1 cap] w (Rn (ap 7 [p] S n) w0 A c E b l ov w):=by
 have hl0:Hid (0<l.length):=hl
 have HAR:=qq (fun w1 (h1:Vs w1 L [p]) K (hq:Blk w1 K (kcl [0])) (h:Mac w0 A c E b l S n 0 ov w1)=>(mare_any (cl:=cap) (ck:=1) (by decide) (Nat.le_refl 1) (by show 1≤3;decide) h1 hq h:Calls Tryz.prog 152 #[.pointer (some ⟨b,0,none⟩),.slice (some ⟨L,0,none⟩) 1 cap,.slice (some ⟨K,0,none⟩) 1 1] w1 (Ar (fits [0] [p]) w0 A c E b l S n ov w1)))
 have hpa:=rt_all hp
 have hpr:=rb_yes hpa.2.2.1
 obtain ⟨hn1,hn2⟩:=hpa.1
 obtain ⟨⟨hx1,hx2⟩,hy1,hy2⟩:=hpr
 change -16777216≤p.x at hx1;change p.x≤16777216 at hx2;change -16777216≤p.y at hy1;change p.y≤16777216 at hy2
 clear hpa hp
 by_cases h2:p.k=2
 · have h3:(p.k == 2)=true:=by simpa using h2
   have HAP:Hid (ap 7 [p] S n=.ok (pv (-p.x) (-p.y)) S n):=by show lift (if p.k=0 then .inr (nv (-p.n)) else if p.k=2 then .inr (pv (-p.x) (-p.y)) else .inl 13) S n=_;rw [if_neg (by omega),if_pos h2];rfl
   clear h2
   obtain ⟨l0,l1,l2,l3,l4,hLlt⟩:=hv.p1
   obtain ⟨w1,hw1,hd1,hm1,hbel,hsz,hbX,hbA,hbB⟩:=mbox3 hd hl 28 zz 28 p 28 p
   have HD1:=qq hd1;have HM1:=qq hm1;have HW1:=qq hw1;have HX1:=qq hbX;have HA1:=qq hbA;have HB1:=qq hbB
   have HL1:=qq (hv.next hbel);clear hv
   clear hd hd1 hm1 hbel hsz hw1 hbX hbA hbB
   go_enter Tryz.func114,Tryz.ntmps114
   go_upto_region 31 with fail
   rw [HW1.out]
   clear l0 l1 l2 l3 l4 hLlt 
   clear HL1
   have qA3:=HA1.out.blk.c 3 _ rfl
   have qA4:=HA1.out.blk.c 4 _ rfl
   obtain ⟨cX0,cX1,cX2,cX3,cX4,zX0,zX1,zX2,zX3,zX4,hltX⟩:=HX1.out.five
   go_wp2_with fail
   refine mend (P:=bodyPost _ _ _ _ _) HD1.out HM1.out HX1.out (by omega) _ _ _ _ _ ?_
   clear HD1 HM1 HX1 HA1 HB1 qA3 qA4 cX0 cX1 cX2 cX3 cX4 zX0 zX1 zX2 zX3 zX4
   intro w9 hd9 hm9 c0 c1 c2 c3 c4
   refine bodyPost_ret (v:=.agg #[.int .i64 2,.int .i64 0,.string ⟨#[]⟩,.int .i64 (-p.x),.int .i64 (-p.y)]) (by simp [results,Tryz.results114,go_sem,c0,c1,c2,c3,c4]) rfl ⟨pv (-p.x) (-p.y),0,S,n,ov,rfl,Ans.ok (HAP.out) rfl,fun h=>absurd rfl h,hd9,hm9⟩
 · have h3:(p.k == 2)=false:=by simpa using h2
   have HAP:Hid (ap 7 [p] S n=lift (if p.k=0 then .inr (nv (-p.n)) else if p.k=2 then .inr (pv (-p.x) (-p.y)) else .inl 13) S n):=rfl
   have H2:=qq h2;clear h2
   obtain ⟨l0,l1,l2,l3,l4,hLlt⟩:=hv.p1
   obtain ⟨w1,hw1,hd1,hm1,hbel,hsz,hbX,hbA,hbB⟩:=mbox3 hd hl 28 zz 28 p 28 p
   have HD1:=qq hd1;have HM1:=qq hm1;have HW1:=qq hw1;have HX1:=qq hbX;have HA1:=qq hbA;have HB1:=qq hbB
   have HL1:=qq (hv.next hbel);clear hv
   have HSZ1:=qq hsz
   clear hd hd1 hm1 hbel hsz hw1 hbX hbA hbB
   go_enter Tryz.func114,Tryz.ntmps114
   go_wp2_with fail
   rw [HW1.out]
   clear l0 l1 l2 l3 l4 hLlt 
   have hbK:=Box.makeM HD1.out hl0.out 3 [.int .i64 0]
   have hb:=box1 w1 (.cells #[.int .i64 0] 3)
   obtain ⟨w2,hw2⟩:∃ w2,w1.alloc (.cells #[.int .i64 0] 3)=w2:=⟨_,rfl⟩
   rw [show w1.alloc (.cells [.int .i64 0].toArray 3)=w2 from hw2] at hbK
   rw [hw2] at hb
   rw [HSZ1.out] at hbK
   have HW2:=qq hw2;have HK2:=qq hbK
   clear hw2 hbK
   have HD2:=qq (HD1.out.old hb)
   have HM2:=qq (HM1.out.old hb)
   have HX2:=qq (HX1.out.old hb)
   have HA2:=qq (HA1.out.old hb)
   have HB2:=qq (HB1.out.old hb)
   clear hb HD1 HM1 HX1 HA1 HB1  
   have HL2:=qq (HL1.out.next (show Below w1.heap.size w1 w2 by rw [← HW2.out];exact box1 _ _));clear HL1
   rw [HW2.out]
   clear HW2
   refine (HAR.out _ HL2.out _ HK2.out.blk HD2.out).mono ?_
   rintro e w3 ⟨rfl,hd2,hm2,hbl2⟩
   clear HK2
   rcases Bool.eq_false_or_eq_true (fits [0] [p]) with hf | hf
   · have HAQ:Hid (ap 7 [p] S n=.ok (nv (-p.n)) S n):=by show _=_;rw [HAP.out,if_pos (fits_1 hf)];rfl
     have HD3:=qq (show Mac w0 A c E b l S n 0 ov w3 by rw [hf] at hd2;exact hd2);have HM3:=qq (HM2.out.trans hm2);have HX3:=qq (HX2.out.mv hm2);have HA3:=qq (HA2.out.mv hm2);have HL3:=qq (HL2.out.next (hbl2 hf))
     rw [hf]
     clear hd2 hm2 hbl2 hf HD2 HM2 HX2 HA2 HB2 HL2 
     clear HL3
     have qA1:=HA3.out.blk.c 1 _ rfl
     go_wp2_with fail
     refine (mnum_any _ _).mono ?_
     rintro e w4 ⟨rfl,hb⟩
     have HD4:=qq (HD3.out.old hb)
     have HM4:=qq (HM3.out.old hb)
     have HX4:=qq (HX3.out.old hb)
     have HA4:=qq (HA3.out.old hb)
     clear hb HD3 HM3 HX3 HA3 qA1 
     obtain ⟨cX0,cX1,cX2,cX3,cX4,zX0,zX1,zX2,zX3,zX4,hltX⟩:=HX4.out.five
     go_wp2_with fail
     refine mend (P:=bodyPost _ _ _ _ _) HD4.out HM4.out HX4.out (by omega) _ _ _ _ _ ?_
     clear HD4 HM4 HX4 HA4 cX0 cX1 cX2 cX3 cX4 zX0 zX1 zX2 zX3 zX4
     intro w9 hd9 hm9 c0 c1 c2 c3 c4
     refine bodyPost_ret (v:=.agg #[.int .i64 0,.int .i64 (-p.n),.string ⟨#[]⟩,.int .i64 0,.int .i64 0]) (by simp [results,Tryz.results114,go_sem,c0,c1,c2,c3,c4]) rfl ⟨nv (-p.n),0,S,n,ov,rfl,Ans.ok (HAQ.out) rfl,fun h=>absurd rfl h,hd9,hm9⟩
   · have HAQ:Hid (ap 7 [p] S n=.er 13):=by show _=_;rw [HAP.out,if_neg (fun e=>by rw [show fits [0] [p]=true by unfold fits;rw [e];rfl] at hf;cases hf),if_neg H2.out];rfl
     have HD3:=qq (show Mac w0 A c E b l S n 13 ov w3 by rw [hf] at hd2;exact hd2);have HM3:=qq (HM2.out.trans hm2);have HX3:=qq (HX2.out.mv hm2)
     rw [hf]
     clear hd2 hm2 hbl2 hf HD2 HM2 HX2 HA2 HB2 HL2 
     have HSN:=qq (mstr_none_neg (cap:=cap) (L:=L) (m:=1) HD3.out hl0.out)
     go_wp2_with fail
     refine (HSN.out).mono ?_
     rintro e w4 ⟨rfl,hd3,hm3⟩
     have HD4:=qq hd3;have HM4:=qq (HM3.out.trans hm3);have HX4:=qq (HX3.out.mv hm3)
     clear hd3 hm3 HSN HD3 HM3 HX3
     obtain ⟨cX0,cX1,cX2,cX3,cX4,zX0,zX1,zX2,zX3,zX4,hltX⟩:=HX4.out.five
     go_wp2_with fail
     refine mend (P:=bodyPost _ _ _ _ _) HD4.out HM4.out HX4.out (by omega) _ _ _ _ _ ?_
     clear HD4 HM4 HX4 cX0 cX1 cX2 cX3 cX4 zX0 zX1 zX2 zX3 zX4
     intro w9 hd9 hm9 c0 c1 c2 c3 c4
     refine bodyPost_ret (v:=.agg zz) (by simp [results,Tryz.results114,go_sem,c0,c1,c2,c3,c4]) rfl ⟨vz,13,S,n,ov,rfl,Ans.er HAQ.out rfl (by decide),fun _=>rfl,hd9,hm9⟩
theorem map_not {w0:World} {A:Option Addr} {c E b n:Nat} {l:List No} {S:St} {ov:Value} {w:World} {L cap:Nat} (p:Va) (_hp:rt p=true) (hv:Vs w L [p]) (hd:Mac w0 A c E b l S n 0 ov w) (hl:0<l.length):Calls Tryz.prog 114 #[.pointer (some ⟨b,0,none⟩),.string ⟨#[110,111,116]⟩,.slice (some ⟨L,0,none⟩) 1 cap] w (Rn (ap 10 [p] S n) w0 A c E b l ov w):=by
 have hl0:Hid (0<l.length):=hl
 have HAR:=qq (fun w1 (h1:Vs w1 L [p]) K (hq:Blk w1 K (kcl [0])) (h:Mac w0 A c E b l S n 0 ov w1)=>(mare_any (cl:=cap) (ck:=1) (by decide) (Nat.le_refl 1) (by show 1≤3;decide) h1 hq h:Calls Tryz.prog 152 #[.pointer (some ⟨b,0,none⟩),.slice (some ⟨L,0,none⟩) 1 cap,.slice (some ⟨K,0,none⟩) 1 1] w1 (Ar (fits [0] [p]) w0 A c E b l S n ov w1)))
 obtain ⟨l0,l1,l2,l3,l4,hLlt⟩:=hv.p1
 obtain ⟨w1,hw1,hd1,hm1,hbel,hsz,hbX,hbA,hbB⟩:=mbox3 hd hl 28 zz 28 p 28 p
 have HD1:=qq hd1;have HM1:=qq hm1;have HW1:=qq hw1;have HX1:=qq hbX;have HA1:=qq hbA;have HB1:=qq hbB
 have HL1:=qq (hv.next hbel);clear hv
 have HSZ1:=qq hsz
 clear hd hd1 hm1 hbel hsz hw1 hbX hbA hbB
 go_enter Tryz.func114,Tryz.ntmps114
 go_wp2_with fail
 rw [HW1.out]
 clear l0 l1 l2 l3 l4 hLlt 
 have hbK:=Box.makeM HD1.out hl0.out 3 [.int .i64 0]
 have hb:=box1 w1 (.cells #[.int .i64 0] 3)
 obtain ⟨w2,hw2⟩:∃ w2,w1.alloc (.cells #[.int .i64 0] 3)=w2:=⟨_,rfl⟩
 rw [show w1.alloc (.cells [.int .i64 0].toArray 3)=w2 from hw2] at hbK
 rw [hw2] at hb
 rw [HSZ1.out] at hbK
 have HW2:=qq hw2;have HK2:=qq hbK
 clear hw2 hbK
 have HD2:=qq (HD1.out.old hb)
 have HM2:=qq (HM1.out.old hb)
 have HX2:=qq (HX1.out.old hb)
 have HA2:=qq (HA1.out.old hb)
 have HB2:=qq (HB1.out.old hb)
 clear hb HD1 HM1 HX1 HA1 HB1  
 have HL2:=qq (HL1.out.next (show Below w1.heap.size w1 w2 by rw [← HW2.out];exact box1 _ _));clear HL1
 rw [HW2.out]
 clear HW2
 refine (HAR.out _ HL2.out _ HK2.out.blk HD2.out).mono ?_
 rintro e w3 ⟨rfl,hd2,hm2,hbl2⟩
 clear HK2
 rcases Bool.eq_false_or_eq_true (fits [0] [p]) with hf | hf
 · have HAQ:Hid (ap 10 [p] S n=.ok (nv (tri (p.n == 0))) S n):=by show _=_;rw [ap_af (o:=10) hf];show lift (.inr (tr (decide (p.n=0)))) S n=_;rw [tr_tri,show (p.n == 0)=decide (p.n=0) from rfl];rfl
   have HD3:=qq (show Mac w0 A c E b l S n 0 ov w3 by rw [hf] at hd2;exact hd2);have HM3:=qq (HM2.out.trans hm2);have HX3:=qq (HX2.out.mv hm2);have HA3:=qq (HA2.out.mv hm2);have HL3:=qq (HL2.out.next (hbl2 hf))
   rw [hf]
   clear hd2 hm2 hbl2 hf HD2 HM2 HX2 HA2 HB2 HL2 
   clear HL3
   have qA1:=HA3.out.blk.c 1 _ rfl
   go_wp2_with fail
   refine (mtruth_any _ _).mono ?_
   rintro e w4 ⟨rfl,hb⟩
   have HD4:=qq (HD3.out.old hb)
   have HM4:=qq (HM3.out.old hb)
   have HX4:=qq (HX3.out.old hb)
   have HA4:=qq (HA3.out.old hb)
   clear hb HD3 HM3 HX3 HA3 qA1 
   obtain ⟨cX0,cX1,cX2,cX3,cX4,zX0,zX1,zX2,zX3,zX4,hltX⟩:=HX4.out.five
   go_wp2_with fail
   refine mend (P:=bodyPost _ _ _ _ _) HD4.out HM4.out HX4.out (by omega) _ _ _ _ _ ?_
   clear HD4 HM4 HX4 HA4 cX0 cX1 cX2 cX3 cX4 zX0 zX1 zX2 zX3 zX4
   intro w9 hd9 hm9 c0 c1 c2 c3 c4
   refine bodyPost_ret (v:=.agg #[.int .i64 0,.int .i64 (tri (p.n == 0)),.string ⟨#[]⟩,.int .i64 0,.int .i64 0]) (by simp [results,Tryz.results114,go_sem,c0,c1,c2,c3,c4]) rfl ⟨nv (tri (p.n == 0)),0,S,n,ov,rfl,Ans.ok (HAQ.out) rfl,fun h=>absurd rfl h,hd9,hm9⟩
 · have HAQ:=qq (ap_no (o:=10) (l:=[p]) hf S n)
   have HD3:=qq (show Mac w0 A c E b l S n 13 ov w3 by rw [hf] at hd2;exact hd2);have HM3:=qq (HM2.out.trans hm2);have HX3:=qq (HX2.out.mv hm2)
   rw [hf]
   clear hd2 hm2 hbl2 hf HD2 HM2 HX2 HA2 HB2 HL2 
   have HSN:=qq (mstr_none_not (cap:=cap) (L:=L) (m:=1) HD3.out hl0.out)
   go_wp2_with fail
   refine (HSN.out).mono ?_
   rintro e w4 ⟨rfl,hd3,hm3⟩
   have HD4:=qq hd3;have HM4:=qq (HM3.out.trans hm3);have HX4:=qq (HX3.out.mv hm3)
   clear hd3 hm3 HSN HD3 HM3 HX3
   obtain ⟨cX0,cX1,cX2,cX3,cX4,zX0,zX1,zX2,zX3,zX4,hltX⟩:=HX4.out.five
   go_wp2_with fail
   refine mend (P:=bodyPost _ _ _ _ _) HD4.out HM4.out HX4.out (by omega) _ _ _ _ _ ?_
   clear HD4 HM4 HX4 cX0 cX1 cX2 cX3 cX4 zX0 zX1 zX2 zX3 zX4
   intro w9 hd9 hm9 c0 c1 c2 c3 c4
   refine bodyPost_ret (v:=.agg zz) (by simp [results,Tryz.results114,go_sem,c0,c1,c2,c3,c4]) rfl ⟨vz,13,S,n,ov,rfl,Ans.er HAQ.out rfl (by decide),fun _=>rfl,hd9,hm9⟩
theorem map_at {w0:World} {A:Option Addr} {c E b n:Nat} {l:List No} {S:St} {ov:Value} {w:World} {L cap:Nat} (p q:Va) (_hp:rt p=true) (_hq:rt q=true) (hv:Vs w L [p,q]) (hd:Mac w0 A c E b l S n 0 ov w) (hl:0<l.length):Calls Tryz.prog 114 #[.pointer (some ⟨b,0,none⟩),.string ⟨#[97,116]⟩,.slice (some ⟨L,0,none⟩) 2 cap] w (Rn (ap 21 [p,q] S n) w0 A c E b l ov w):=by
 have HRI:=qq (fun (v:Va) w1 (h:Mac w0 A c E b l S n 0 ov w1)=>mright_any v h hl)
 have hl0:Hid (0<l.length):=hl
 have HAR:=qq (fun w1 (h1:Vs w1 L [p,q]) K (hq:Blk w1 K (kcl [0,0])) (h:Mac w0 A c E b l S n 0 ov w1)=>(mare_any (cl:=cap) (ck:=2) (by decide) (Nat.le_refl 2) (by show 2≤3;decide) h1 hq h:Calls Tryz.prog 152 #[.pointer (some ⟨b,0,none⟩),.slice (some ⟨L,0,none⟩) 2 cap,.slice (some ⟨K,0,none⟩) 2 2] w1 (Ar (fits [0,0] [p,q]) w0 A c E b l S n ov w1)))
 obtain ⟨l0,l1,l2,l3,l4,hLlt⟩:=hv.p1
 obtain ⟨l5,l6,l7,l8,l9⟩:=hv.p2
 obtain ⟨w1,hw1,hd1,hm1,hbel,hsz,hbX,hbA,hbB⟩:=mbox3 hd hl 28 zz 28 p 28 q
 have HD1:=qq hd1;have HM1:=qq hm1;have HW1:=qq hw1;have HX1:=qq hbX;have HA1:=qq hbA;have HB1:=qq hbB
 have HL1:=qq (hv.next hbel);clear hv
 have HSZ1:=qq hsz
 clear hd hd1 hm1 hbel hsz hw1 hbX hbA hbB
 go_enter Tryz.func114,Tryz.ntmps114
 go_wp2_with fail
 rw [HW1.out]
 clear l0 l1 l2 l3 l4 l5 l6 l7 l8 l9 hLlt 
 have hbK:=Box.makeM HD1.out hl0.out 3 [.int .i64 0,.int .i64 0]
 have hb:=box1 w1 (.cells #[.int .i64 0,.int .i64 0] 3)
 obtain ⟨w2,hw2⟩:∃ w2,w1.alloc (.cells #[.int .i64 0,.int .i64 0] 3)=w2:=⟨_,rfl⟩
 rw [show w1.alloc (.cells [.int .i64 0,.int .i64 0].toArray 3)=w2 from hw2] at hbK
 rw [hw2] at hb
 rw [HSZ1.out] at hbK
 have HW2:=qq hw2;have HK2:=qq hbK
 clear hw2 hbK
 have HD2:=qq (HD1.out.old hb)
 have HM2:=qq (HM1.out.old hb)
 have HX2:=qq (HX1.out.old hb)
 have HA2:=qq (HA1.out.old hb)
 have HB2:=qq (HB1.out.old hb)
 clear hb HD1 HM1 HX1 HA1 HB1  
 have HL2:=qq (HL1.out.next (show Below w1.heap.size w1 w2 by rw [← HW2.out];exact box1 _ _));clear HL1
 rw [HW2.out]
 clear HW2
 refine (HAR.out _ HL2.out _ HK2.out.blk HD2.out).mono ?_
 rintro e w3 ⟨rfl,hd2,hm2,hbl2⟩
 clear HK2
 rcases Bool.eq_false_or_eq_true (fits [0,0] [p,q]) with hf | hf
 · have HAQ:Hid (ap 21 [p,q] S n=lift (chk (pv p.n q.n)) S n):=by show _=_;rw [ap_af (o:=21) hf];rfl
   have HD3:=qq (show Mac w0 A c E b l S n 0 ov w3 by rw [hf] at hd2;exact hd2);have HM3:=qq (HM2.out.trans hm2);have HX3:=qq (HX2.out.mv hm2);have HA3:=qq (HA2.out.mv hm2);have HB3:=qq (HB2.out.mv hm2);have HL3:=qq (HL2.out.next (hbl2 hf))
   rw [hf]
   clear hd2 hm2 hbl2 hf HD2 HM2 HX2 HA2 HB2 HL2 
   clear HL3
   have qA1:=HA3.out.blk.c 1 _ rfl
   have qB1:=HB3.out.blk.c 1 _ rfl
   go_wp2_with fail
   refine (HRI.out (pv p.n q.n) _ HD3.out).mono ?_
   rintro e w4 ⟨u,x,S1,n1,ov1,rfl,hans,hz,hd3,hm3⟩
   have HA:=qq hans;have HZ:=qq hz;have HD4:=qq hd3;have HM4:=qq (HM3.out.trans hm3);have HX4:=qq (HX3.out.mv hm3)
   clear hans hz hd3 hm3 HD3 HM3 HX3 HA3 HB3 qA1 qB1 
   obtain ⟨cX0,cX1,cX2,cX3,cX4,zX0,zX1,zX2,zX3,zX4,hltX⟩:=HX4.out.five
   go_wp2_with fail
   refine mend (P:=bodyPost _ _ _ _ _) HD4.out HM4.out HX4.out (by omega) _ _ _ _ _ ?_
   clear HD4 HM4 HX4 cX0 cX1 cX2 cX3 cX4 zX0 zX1 zX2 zX3 zX4
   intro w9 hd9 hm9 c0 c1 c2 c3 c4
   refine bodyPost_ret (v:=.agg u) (by simp [results,Tryz.results114,go_sem,c0,c1,c2,c3,c4]) rfl ⟨u,x,S1,n1,ov1,rfl,by rw [HAQ.out];exact HA.out,HZ.out,hd9,hm9⟩
 · have HAQ:=qq (ap_no (o:=21) (l:=[p,q]) hf S n)
   have HD3:=qq (show Mac w0 A c E b l S n 13 ov w3 by rw [hf] at hd2;exact hd2);have HM3:=qq (HM2.out.trans hm2);have HX3:=qq (HX2.out.mv hm2)
   rw [hf]
   clear hd2 hm2 hbl2 hf HD2 HM2 HX2 HA2 HB2 HL2 
   have HSN:=qq (mstr_none_at (cap:=cap) (L:=L) (m:=2) HD3.out hl0.out)
   go_wp2_with fail
   refine (HSN.out).mono ?_
   rintro e w4 ⟨rfl,hd3,hm3⟩
   have HD4:=qq hd3;have HM4:=qq (HM3.out.trans hm3);have HX4:=qq (HX3.out.mv hm3)
   clear hd3 hm3 HSN HD3 HM3 HX3
   obtain ⟨cX0,cX1,cX2,cX3,cX4,zX0,zX1,zX2,zX3,zX4,hltX⟩:=HX4.out.five
   go_wp2_with fail
   refine mend (P:=bodyPost _ _ _ _ _) HD4.out HM4.out HX4.out (by omega) _ _ _ _ _ ?_
   clear HD4 HM4 HX4 cX0 cX1 cX2 cX3 cX4 zX0 zX1 zX2 zX3 zX4
   intro w9 hd9 hm9 c0 c1 c2 c3 c4
   refine bodyPost_ret (v:=.agg zz) (by simp [results,Tryz.results114,go_sem,c0,c1,c2,c3,c4]) rfl ⟨vz,13,S,n,ov,rfl,Ans.er HAQ.out rfl (by decide),fun _=>rfl,hd9,hm9⟩
theorem map_re {w0:World} {A:Option Addr} {c E b n:Nat} {l:List No} {S:St} {ov:Value} {w:World} {L cap:Nat} (p:Va) (hp:rt p=true) (hv:Vs w L [p]) (hd:Mac w0 A c E b l S n 0 ov w) (hl:0<l.length):Calls Tryz.prog 114 #[.pointer (some ⟨b,0,none⟩),.string ⟨#[114,101]⟩,.slice (some ⟨L,0,none⟩) 1 cap] w (Rn (ap 22 [p] S n) w0 A c E b l ov w):=by
 have hl0:Hid (0<l.length):=hl
 have HAR:=qq (fun w1 (h1:Vs w1 L [p]) K (hq:Blk w1 K (kcl [2])) (h:Mac w0 A c E b l S n 0 ov w1)=>(mare_any (cl:=cap) (ck:=1) (by decide) (Nat.le_refl 1) (by show 1≤3;decide) h1 hq h:Calls Tryz.prog 152 #[.pointer (some ⟨b,0,none⟩),.slice (some ⟨L,0,none⟩) 1 cap,.slice (some ⟨K,0,none⟩) 1 1] w1 (Ar (fits [2] [p]) w0 A c E b l S n ov w1)))
 have hpa:=rt_all hp
 have hrb:=hpa.2.2.1
 unfold pt at hrb
 have hpr:=rb_xy hrb
 obtain ⟨⟨hx1,hx2⟩,hy1,hy2⟩:=hpr
 clear hpa hp hrb
 obtain ⟨l0,l1,l2,l3,l4,hLlt⟩:=hv.p1
 obtain ⟨w1,hw1,hd1,hm1,hbel,hsz,hbX,hbA,hbB⟩:=mbox3 hd hl 28 zz 28 p 28 p
 have HD1:=qq hd1;have HM1:=qq hm1;have HW1:=qq hw1;have HX1:=qq hbX;have HA1:=qq hbA;have HB1:=qq hbB
 have HL1:=qq (hv.next hbel);clear hv
 have HSZ1:=qq hsz
 clear hd hd1 hm1 hbel hsz hw1 hbX hbA hbB
 go_enter Tryz.func114,Tryz.ntmps114
 go_wp2_with fail
 rw [HW1.out]
 clear l0 l1 l2 l3 l4 hLlt 
 have hbK:=Box.makeM HD1.out hl0.out 3 [.int .i64 2]
 have hb:=box1 w1 (.cells #[.int .i64 2] 3)
 obtain ⟨w2,hw2⟩:∃ w2,w1.alloc (.cells #[.int .i64 2] 3)=w2:=⟨_,rfl⟩
 rw [show w1.alloc (.cells [.int .i64 2].toArray 3)=w2 from hw2] at hbK
 rw [hw2] at hb
 rw [HSZ1.out] at hbK
 have HW2:=qq hw2;have HK2:=qq hbK
 clear hw2 hbK
 have HD2:=qq (HD1.out.old hb)
 have HM2:=qq (HM1.out.old hb)
 have HX2:=qq (HX1.out.old hb)
 have HA2:=qq (HA1.out.old hb)
 have HB2:=qq (HB1.out.old hb)
 clear hb HD1 HM1 HX1 HA1 HB1  
 have HL2:=qq (HL1.out.next (show Below w1.heap.size w1 w2 by rw [← HW2.out];exact box1 _ _));clear HL1
 rw [HW2.out]
 clear HW2
 refine (HAR.out _ HL2.out _ HK2.out.blk HD2.out).mono ?_
 rintro e w3 ⟨rfl,hd2,hm2,hbl2⟩
 clear HK2
 rcases Bool.eq_false_or_eq_true (fits [2] [p]) with hf | hf
 · have HAQ:Hid (ap 22 [p] S n=.ok (nv p.x) S n):=by show _=_;rw [ap_af (o:=22) hf];rfl
   have HD3:=qq (show Mac w0 A c E b l S n 0 ov w3 by rw [hf] at hd2;exact hd2);have HM3:=qq (HM2.out.trans hm2);have HX3:=qq (HX2.out.mv hm2);have HA3:=qq (HA2.out.mv hm2);have HL3:=qq (HL2.out.next (hbl2 hf))
   rw [hf]
   clear hd2 hm2 hbl2 hf HD2 HM2 HX2 HA2 HB2 HL2 
   clear HL3
   have qA3:=HA3.out.blk.c 3 _ rfl
   have qA4:=HA3.out.blk.c 4 _ rfl
   go_wp2_with fail
   refine (mnum_any _ _).mono ?_
   rintro e w4 ⟨rfl,hb⟩
   have HD4:=qq (HD3.out.old hb)
   have HM4:=qq (HM3.out.old hb)
   have HX4:=qq (HX3.out.old hb)
   have HA4:=qq (HA3.out.old hb)
   clear hb HD3 HM3 HX3 HA3 qA3 qA4 
   obtain ⟨cX0,cX1,cX2,cX3,cX4,zX0,zX1,zX2,zX3,zX4,hltX⟩:=HX4.out.five
   go_wp2_with fail
   refine mend (P:=bodyPost _ _ _ _ _) HD4.out HM4.out HX4.out (by omega) _ _ _ _ _ ?_
   clear HD4 HM4 HX4 HA4 cX0 cX1 cX2 cX3 cX4 zX0 zX1 zX2 zX3 zX4
   intro w9 hd9 hm9 c0 c1 c2 c3 c4
   refine bodyPost_ret (v:=.agg #[.int .i64 0,.int .i64 (p.x),.string ⟨#[]⟩,.int .i64 0,.int .i64 0]) (by simp [results,Tryz.results114,go_sem,c0,c1,c2,c3,c4]) rfl ⟨nv p.x,0,S,n,ov,rfl,Ans.ok (HAQ.out) rfl,fun h=>absurd rfl h,hd9,hm9⟩
 · have HAQ:=qq (ap_no (o:=22) (l:=[p]) hf S n)
   have HD3:=qq (show Mac w0 A c E b l S n 13 ov w3 by rw [hf] at hd2;exact hd2);have HM3:=qq (HM2.out.trans hm2);have HX3:=qq (HX2.out.mv hm2)
   rw [hf]
   clear hd2 hm2 hbl2 hf HD2 HM2 HX2 HA2 HB2 HL2 
   obtain ⟨cX0,cX1,cX2,cX3,cX4,zX0,zX1,zX2,zX3,zX4,hltX⟩:=HX3.out.five
   go_wp2_with fail
   refine mend (P:=bodyPost _ _ _ _ _) HD3.out HM3.out HX3.out (by omega) _ _ _ _ _ ?_
   clear HD3 HM3 HX3 cX0 cX1 cX2 cX3 cX4 zX0 zX1 zX2 zX3 zX4
   intro w9 hd9 hm9 c0 c1 c2 c3 c4
   refine bodyPost_ret (v:=.agg zz) (by simp [results,Tryz.results114,go_sem,c0,c1,c2,c3,c4]) rfl ⟨vz,13,S,n,ov,rfl,Ans.er HAQ.out rfl (by decide),fun _=>rfl,hd9,hm9⟩
theorem map_im {w0:World} {A:Option Addr} {c E b n:Nat} {l:List No} {S:St} {ov:Value} {w:World} {L cap:Nat} (p:Va) (hp:rt p=true) (hv:Vs w L [p]) (hd:Mac w0 A c E b l S n 0 ov w) (hl:0<l.length):Calls Tryz.prog 114 #[.pointer (some ⟨b,0,none⟩),.string ⟨#[105,109]⟩,.slice (some ⟨L,0,none⟩) 1 cap] w (Rn (ap 23 [p] S n) w0 A c E b l ov w):=by
 have hl0:Hid (0<l.length):=hl
 have HAR:=qq (fun w1 (h1:Vs w1 L [p]) K (hq:Blk w1 K (kcl [2])) (h:Mac w0 A c E b l S n 0 ov w1)=>(mare_any (cl:=cap) (ck:=1) (by decide) (Nat.le_refl 1) (by show 1≤3;decide) h1 hq h:Calls Tryz.prog 152 #[.pointer (some ⟨b,0,none⟩),.slice (some ⟨L,0,none⟩) 1 cap,.slice (some ⟨K,0,none⟩) 1 1] w1 (Ar (fits [2] [p]) w0 A c E b l S n ov w1)))
 have hpa:=rt_all hp
 have hrb:=hpa.2.2.1
 unfold pt at hrb
 have hpr:=rb_xy hrb
 obtain ⟨⟨hx1,hx2⟩,hy1,hy2⟩:=hpr
 clear hpa hp hrb
 obtain ⟨l0,l1,l2,l3,l4,hLlt⟩:=hv.p1
 obtain ⟨w1,hw1,hd1,hm1,hbel,hsz,hbX,hbA,hbB⟩:=mbox3 hd hl 28 zz 28 p 28 p
 have HD1:=qq hd1;have HM1:=qq hm1;have HW1:=qq hw1;have HX1:=qq hbX;have HA1:=qq hbA;have HB1:=qq hbB
 have HL1:=qq (hv.next hbel);clear hv
 have HSZ1:=qq hsz
 clear hd hd1 hm1 hbel hsz hw1 hbX hbA hbB
 go_enter Tryz.func114,Tryz.ntmps114
 go_wp2_with fail
 rw [HW1.out]
 clear l0 l1 l2 l3 l4 hLlt 
 have hbK:=Box.makeM HD1.out hl0.out 3 [.int .i64 2]
 have hb:=box1 w1 (.cells #[.int .i64 2] 3)
 obtain ⟨w2,hw2⟩:∃ w2,w1.alloc (.cells #[.int .i64 2] 3)=w2:=⟨_,rfl⟩
 rw [show w1.alloc (.cells [.int .i64 2].toArray 3)=w2 from hw2] at hbK
 rw [hw2] at hb
 rw [HSZ1.out] at hbK
 have HW2:=qq hw2;have HK2:=qq hbK
 clear hw2 hbK
 have HD2:=qq (HD1.out.old hb)
 have HM2:=qq (HM1.out.old hb)
 have HX2:=qq (HX1.out.old hb)
 have HA2:=qq (HA1.out.old hb)
 have HB2:=qq (HB1.out.old hb)
 clear hb HD1 HM1 HX1 HA1 HB1  
 have HL2:=qq (HL1.out.next (show Below w1.heap.size w1 w2 by rw [← HW2.out];exact box1 _ _));clear HL1
 rw [HW2.out]
 clear HW2
 refine (HAR.out _ HL2.out _ HK2.out.blk HD2.out).mono ?_
 rintro e w3 ⟨rfl,hd2,hm2,hbl2⟩
 clear HK2
 rcases Bool.eq_false_or_eq_true (fits [2] [p]) with hf | hf
 · have HAQ:Hid (ap 23 [p] S n=.ok (nv p.y) S n):=by show _=_;rw [ap_af (o:=23) hf];rfl
   have HD3:=qq (show Mac w0 A c E b l S n 0 ov w3 by rw [hf] at hd2;exact hd2);have HM3:=qq (HM2.out.trans hm2);have HX3:=qq (HX2.out.mv hm2);have HA3:=qq (HA2.out.mv hm2);have HL3:=qq (HL2.out.next (hbl2 hf))
   rw [hf]
   clear hd2 hm2 hbl2 hf HD2 HM2 HX2 HA2 HB2 HL2 
   clear HL3
   have qA3:=HA3.out.blk.c 3 _ rfl
   have qA4:=HA3.out.blk.c 4 _ rfl
   go_wp2_with fail
   refine (mnum_any _ _).mono ?_
   rintro e w4 ⟨rfl,hb⟩
   have HD4:=qq (HD3.out.old hb)
   have HM4:=qq (HM3.out.old hb)
   have HX4:=qq (HX3.out.old hb)
   have HA4:=qq (HA3.out.old hb)
   clear hb HD3 HM3 HX3 HA3 qA3 qA4 
   obtain ⟨cX0,cX1,cX2,cX3,cX4,zX0,zX1,zX2,zX3,zX4,hltX⟩:=HX4.out.five
   go_wp2_with fail
   refine mend (P:=bodyPost _ _ _ _ _) HD4.out HM4.out HX4.out (by omega) _ _ _ _ _ ?_
   clear HD4 HM4 HX4 HA4 cX0 cX1 cX2 cX3 cX4 zX0 zX1 zX2 zX3 zX4
   intro w9 hd9 hm9 c0 c1 c2 c3 c4
   refine bodyPost_ret (v:=.agg #[.int .i64 0,.int .i64 (p.y),.string ⟨#[]⟩,.int .i64 0,.int .i64 0]) (by simp [results,Tryz.results114,go_sem,c0,c1,c2,c3,c4]) rfl ⟨nv p.y,0,S,n,ov,rfl,Ans.ok (HAQ.out) rfl,fun h=>absurd rfl h,hd9,hm9⟩
 · have HAQ:=qq (ap_no (o:=23) (l:=[p]) hf S n)
   have HD3:=qq (show Mac w0 A c E b l S n 13 ov w3 by rw [hf] at hd2;exact hd2);have HM3:=qq (HM2.out.trans hm2);have HX3:=qq (HX2.out.mv hm2)
   rw [hf]
   clear hd2 hm2 hbl2 hf HD2 HM2 HX2 HA2 HB2 HL2 
   obtain ⟨cX0,cX1,cX2,cX3,cX4,zX0,zX1,zX2,zX3,zX4,hltX⟩:=HX3.out.five
   go_wp2_with fail
   refine mend (P:=bodyPost _ _ _ _ _) HD3.out HM3.out HX3.out (by omega) _ _ _ _ _ ?_
   clear HD3 HM3 HX3 cX0 cX1 cX2 cX3 cX4 zX0 zX1 zX2 zX3 zX4
   intro w9 hd9 hm9 c0 c1 c2 c3 c4
   refine bodyPost_ret (v:=.agg zz) (by simp [results,Tryz.results114,go_sem,c0,c1,c2,c3,c4]) rfl ⟨vz,13,S,n,ov,rfl,Ans.er HAQ.out rfl (by decide),fun _=>rfl,hd9,hm9⟩
theorem map_norm {w0:World} {A:Option Addr} {c E b n:Nat} {l:List No} {S:St} {ov:Value} {w:World} {L cap:Nat} (p:Va) (hp:rt p=true) (hv:Vs w L [p]) (hd:Mac w0 A c E b l S n 0 ov w) (hl:0<l.length):Calls Tryz.prog 114 #[.pointer (some ⟨b,0,none⟩),.string ⟨#[110,111,114,109]⟩,.slice (some ⟨L,0,none⟩) 1 cap] w (Rn (ap 24 [p] S n) w0 A c E b l ov w):=by
 have hl0:Hid (0<l.length):=hl
 have HAR:=qq (fun w1 (h1:Vs w1 L [p]) K (hq:Blk w1 K (kcl [2])) (h:Mac w0 A c E b l S n 0 ov w1)=>(mare_any (cl:=cap) (ck:=1) (by decide) (Nat.le_refl 1) (by show 1≤3;decide) h1 hq h:Calls Tryz.prog 152 #[.pointer (some ⟨b,0,none⟩),.slice (some ⟨L,0,none⟩) 1 cap,.slice (some ⟨K,0,none⟩) 1 1] w1 (Ar (fits [2] [p]) w0 A c E b l S n ov w1)))
 have hpa:=rt_all hp
 have hrb:=hpa.2.2.1
 unfold pt at hrb
 have hpr:=rb_xy hrb
 obtain ⟨⟨hx1,hx2⟩,hy1,hy2⟩:=hpr
 have HNO:=qq (rnorm_any hrb)
 clear hpa hp hrb
 obtain ⟨l0,l1,l2,l3,l4,hLlt⟩:=hv.p1
 obtain ⟨w1,hw1,hd1,hm1,hbel,hsz,hbX,hbA,hbB⟩:=mbox3 hd hl 28 zz 28 p 28 p
 have HD1:=qq hd1;have HM1:=qq hm1;have HW1:=qq hw1;have HX1:=qq hbX;have HA1:=qq hbA;have HB1:=qq hbB
 have HL1:=qq (hv.next hbel);clear hv
 have HSZ1:=qq hsz
 clear hd hd1 hm1 hbel hsz hw1 hbX hbA hbB
 go_enter Tryz.func114,Tryz.ntmps114
 go_wp2_with fail
 rw [HW1.out]
 clear l0 l1 l2 l3 l4 hLlt 
 have hbK:=Box.makeM HD1.out hl0.out 3 [.int .i64 2]
 have hb:=box1 w1 (.cells #[.int .i64 2] 3)
 obtain ⟨w2,hw2⟩:∃ w2,w1.alloc (.cells #[.int .i64 2] 3)=w2:=⟨_,rfl⟩
 rw [show w1.alloc (.cells [.int .i64 2].toArray 3)=w2 from hw2] at hbK
 rw [hw2] at hb
 rw [HSZ1.out] at hbK
 have HW2:=qq hw2;have HK2:=qq hbK
 clear hw2 hbK
 have HD2:=qq (HD1.out.old hb)
 have HM2:=qq (HM1.out.old hb)
 have HX2:=qq (HX1.out.old hb)
 have HA2:=qq (HA1.out.old hb)
 have HB2:=qq (HB1.out.old hb)
 clear hb HD1 HM1 HX1 HA1 HB1  
 have HL2:=qq (HL1.out.next (show Below w1.heap.size w1 w2 by rw [← HW2.out];exact box1 _ _));clear HL1
 rw [HW2.out]
 clear HW2
 refine (HAR.out _ HL2.out _ HK2.out.blk HD2.out).mono ?_
 rintro e w3 ⟨rfl,hd2,hm2,hbl2⟩
 clear HK2
 rcases Bool.eq_false_or_eq_true (fits [2] [p]) with hf | hf
 · have HAQ:Hid (ap 24 [p] S n=.ok (nv (p.x * p.x+p.y * p.y)) S n):=by show _=_;rw [ap_af (o:=24) hf];rfl
   have HD3:=qq (show Mac w0 A c E b l S n 0 ov w3 by rw [hf] at hd2;exact hd2);have HM3:=qq (HM2.out.trans hm2);have HX3:=qq (HX2.out.mv hm2);have HA3:=qq (HA2.out.mv hm2);have HL3:=qq (HL2.out.next (hbl2 hf))
   rw [hf]
   clear hd2 hm2 hbl2 hf HD2 HM2 HX2 HA2 HB2 HL2 
   clear HL3
   have qA3:=HA3.out.blk.c 3 _ rfl
   have qA4:=HA3.out.blk.c 4 _ rfl
   go_wp2_with fail
   refine (HNO.out _).mono ?_
   rintro e w4 ⟨rfl,hb⟩
   have HD4:=qq (HD3.out.old hb)
   have HM4:=qq (HM3.out.old hb)
   have HX4:=qq (HX3.out.old hb)
   have HA4:=qq (HA3.out.old hb)
   clear hb HD3 HM3 HX3 HA3 qA3 qA4 
   go_wp2_with fail
   refine (mnum_any _ _).mono ?_
   rintro e w5 ⟨rfl,hb⟩
   have HD5:=qq (HD4.out.old hb)
   have HM5:=qq (HM4.out.old hb)
   have HX5:=qq (HX4.out.old hb)
   have HA5:=qq (HA4.out.old hb)
   clear hb HD4 HM4 HX4 HA4  
   obtain ⟨cX0,cX1,cX2,cX3,cX4,zX0,zX1,zX2,zX3,zX4,hltX⟩:=HX5.out.five
   go_wp2_with fail
   refine mend (P:=bodyPost _ _ _ _ _) HD5.out HM5.out HX5.out (by omega) _ _ _ _ _ ?_
   clear HD5 HM5 HX5 HA5 cX0 cX1 cX2 cX3 cX4 zX0 zX1 zX2 zX3 zX4
   intro w9 hd9 hm9 c0 c1 c2 c3 c4
   refine bodyPost_ret (v:=.agg #[.int .i64 0,.int .i64 (p.x * p.x+p.y * p.y),.string ⟨#[]⟩,.int .i64 0,.int .i64 0]) (by simp [results,Tryz.results114,go_sem,c0,c1,c2,c3,c4]) rfl ⟨nv (p.x * p.x+p.y * p.y),0,S,n,ov,rfl,Ans.ok (HAQ.out) rfl,fun h=>absurd rfl h,hd9,hm9⟩
 · have HAQ:=qq (ap_no (o:=24) (l:=[p]) hf S n)
   have HD3:=qq (show Mac w0 A c E b l S n 13 ov w3 by rw [hf] at hd2;exact hd2);have HM3:=qq (HM2.out.trans hm2);have HX3:=qq (HX2.out.mv hm2)
   rw [hf]
   clear hd2 hm2 hbl2 hf HD2 HM2 HX2 HA2 HB2 HL2 
   obtain ⟨cX0,cX1,cX2,cX3,cX4,zX0,zX1,zX2,zX3,zX4,hltX⟩:=HX3.out.five
   go_wp2_with fail
   refine mend (P:=bodyPost _ _ _ _ _) HD3.out HM3.out HX3.out (by omega) _ _ _ _ _ ?_
   clear HD3 HM3 HX3 cX0 cX1 cX2 cX3 cX4 zX0 zX1 zX2 zX3 zX4
   intro w9 hd9 hm9 c0 c1 c2 c3 c4
   refine bodyPost_ret (v:=.agg zz) (by simp [results,Tryz.results114,go_sem,c0,c1,c2,c3,c4]) rfl ⟨vz,13,S,n,ov,rfl,Ans.er HAQ.out rfl (by decide),fun _=>rfl,hd9,hm9⟩
theorem map_conj {w0:World} {A:Option Addr} {c E b n:Nat} {l:List No} {S:St} {ov:Value} {w:World} {L cap:Nat} (p:Va) (hp:rt p=true) (hv:Vs w L [p]) (hd:Mac w0 A c E b l S n 0 ov w) (hl:0<l.length):Calls Tryz.prog 114 #[.pointer (some ⟨b,0,none⟩),.string ⟨#[99,111,110,106]⟩,.slice (some ⟨L,0,none⟩) 1 cap] w (Rn (ap 25 [p] S n) w0 A c E b l ov w):=by
 have hl0:Hid (0<l.length):=hl
 have HAR:=qq (fun w1 (h1:Vs w1 L [p]) K (hq:Blk w1 K (kcl [2])) (h:Mac w0 A c E b l S n 0 ov w1)=>(mare_any (cl:=cap) (ck:=1) (by decide) (Nat.le_refl 1) (by show 1≤3;decide) h1 hq h:Calls Tryz.prog 152 #[.pointer (some ⟨b,0,none⟩),.slice (some ⟨L,0,none⟩) 1 cap,.slice (some ⟨K,0,none⟩) 1 1] w1 (Ar (fits [2] [p]) w0 A c E b l S n ov w1)))
 have hpa:=rt_all hp
 have hrb:=hpa.2.2.1
 unfold pt at hrb
 have hpr:=rb_xy hrb
 obtain ⟨⟨hx1,hx2⟩,hy1,hy2⟩:=hpr
 clear hpa hp hrb
 obtain ⟨l0,l1,l2,l3,l4,hLlt⟩:=hv.p1
 obtain ⟨w1,hw1,hd1,hm1,hbel,hsz,hbX,hbA,hbB⟩:=mbox3 hd hl 28 zz 28 p 28 p
 have HD1:=qq hd1;have HM1:=qq hm1;have HW1:=qq hw1;have HX1:=qq hbX;have HA1:=qq hbA;have HB1:=qq hbB
 have HL1:=qq (hv.next hbel);clear hv
 have HSZ1:=qq hsz
 clear hd hd1 hm1 hbel hsz hw1 hbX hbA hbB
 go_enter Tryz.func114,Tryz.ntmps114
 go_wp2_with fail
 rw [HW1.out]
 clear l0 l1 l2 l3 l4 hLlt 
 have hbK:=Box.makeM HD1.out hl0.out 3 [.int .i64 2]
 have hb:=box1 w1 (.cells #[.int .i64 2] 3)
 obtain ⟨w2,hw2⟩:∃ w2,w1.alloc (.cells #[.int .i64 2] 3)=w2:=⟨_,rfl⟩
 rw [show w1.alloc (.cells [.int .i64 2].toArray 3)=w2 from hw2] at hbK
 rw [hw2] at hb
 rw [HSZ1.out] at hbK
 have HW2:=qq hw2;have HK2:=qq hbK
 clear hw2 hbK
 have HD2:=qq (HD1.out.old hb)
 have HM2:=qq (HM1.out.old hb)
 have HX2:=qq (HX1.out.old hb)
 have HA2:=qq (HA1.out.old hb)
 have HB2:=qq (HB1.out.old hb)
 clear hb HD1 HM1 HX1 HA1 HB1  
 have HL2:=qq (HL1.out.next (show Below w1.heap.size w1 w2 by rw [← HW2.out];exact box1 _ _));clear HL1
 rw [HW2.out]
 clear HW2
 refine (HAR.out _ HL2.out _ HK2.out.blk HD2.out).mono ?_
 rintro e w3 ⟨rfl,hd2,hm2,hbl2⟩
 clear HK2
 rcases Bool.eq_false_or_eq_true (fits [2] [p]) with hf | hf
 · have HAQ:Hid (ap 25 [p] S n=.ok (pv p.x (-p.y)) S n):=by show _=_;rw [ap_af (o:=25) hf];rfl
   have HD3:=qq (show Mac w0 A c E b l S n 0 ov w3 by rw [hf] at hd2;exact hd2);have HM3:=qq (HM2.out.trans hm2);have HX3:=qq (HX2.out.mv hm2);have HA3:=qq (HA2.out.mv hm2);have HL3:=qq (HL2.out.next (hbl2 hf))
   rw [hf]
   clear hd2 hm2 hbl2 hf HD2 HM2 HX2 HA2 HB2 HL2 
   clear HL3
   have qA3:=HA3.out.blk.c 3 _ rfl
   have qA4:=HA3.out.blk.c 4 _ rfl
   obtain ⟨cX0,cX1,cX2,cX3,cX4,zX0,zX1,zX2,zX3,zX4,hltX⟩:=HX3.out.five
   go_wp2_with fail
   refine mend (P:=bodyPost _ _ _ _ _) HD3.out HM3.out HX3.out (by omega) _ _ _ _ _ ?_
   clear HD3 HM3 HX3 HA3 qA3 qA4 cX0 cX1 cX2 cX3 cX4 zX0 zX1 zX2 zX3 zX4
   intro w9 hd9 hm9 c0 c1 c2 c3 c4
   refine bodyPost_ret (v:=.agg #[.int .i64 2,.int .i64 0,.string ⟨#[]⟩,.int .i64 p.x,.int .i64 (-p.y)]) (by simp [results,Tryz.results114,go_sem,c0,c1,c2,c3,c4]) rfl ⟨pv p.x (-p.y),0,S,n,ov,rfl,Ans.ok (HAQ.out) rfl,fun h=>absurd rfl h,hd9,hm9⟩
 · have HAQ:=qq (ap_no (o:=25) (l:=[p]) hf S n)
   have HD3:=qq (show Mac w0 A c E b l S n 13 ov w3 by rw [hf] at hd2;exact hd2);have HM3:=qq (HM2.out.trans hm2);have HX3:=qq (HX2.out.mv hm2)
   rw [hf]
   clear hd2 hm2 hbl2 hf HD2 HM2 HX2 HA2 HB2 HL2 
   obtain ⟨cX0,cX1,cX2,cX3,cX4,zX0,zX1,zX2,zX3,zX4,hltX⟩:=HX3.out.five
   go_wp2_with fail
   refine mend (P:=bodyPost _ _ _ _ _) HD3.out HM3.out HX3.out (by omega) _ _ _ _ _ ?_
   clear HD3 HM3 HX3 cX0 cX1 cX2 cX3 cX4 zX0 zX1 zX2 zX3 zX4
   intro w9 hd9 hm9 c0 c1 c2 c3 c4
   refine bodyPost_ret (v:=.agg zz) (by simp [results,Tryz.results114,go_sem,c0,c1,c2,c3,c4]) rfl ⟨vz,13,S,n,ov,rfl,Ans.er HAQ.out rfl (by decide),fun _=>rfl,hd9,hm9⟩
end Go.Proofs.YtgakcpcpfkoaiaaGreatDoor.Ev
