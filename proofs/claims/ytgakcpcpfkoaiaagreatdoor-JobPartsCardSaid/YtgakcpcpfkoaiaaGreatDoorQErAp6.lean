/-
  A text of this claim: ErAp6.
-/
import Derived.Test.YtgakcpcpfkoaiaaGreatDoorQ1
import Derived.Test.YtgakcpcpfkoaiaaGreatDoorQErAp1
set_option maxHeartbeats 4000000
set_option maxRecDepth 100000
namespace Go.Proofs.YtgakcpcpfkoaiaaGreatDoor.Ev
open Go.ChangeShapes Go.WideShapes Go.ChangeAt Go.RowKit Ov Va Ga Ex
theorem map_div {w0:World} {A:Option Addr} {c E b n:Nat} {l:List No} {S:St} {ov:Value} {w:World} {L cap:Nat} (p q:Va) (hp:rt p=true) (hq:rt q=true) (hv:Vs w L [p,q]) (hd:Mac w0 A c E b l S n 0 ov w) (hl:0<l.length):Calls Tryz.prog 114 #[.pointer (some ⟨b,0,none⟩),.string ⟨#[100,105,118]⟩,.slice (some ⟨L,0,none⟩) 2 cap] w (Rn (ap 5 [p,q] S n) w0 A c E b l ov w):=by
 have HRI:=qq (fun (v:Va) w1 (h:Mac w0 A c E b l S n 0 ov w1)=>mright_any v h hl)
 have HF:=qq (fun (x:Int) (hx:x ≠ 0) w1 (h:Mac w0 A c E b l S n 0 ov w1)=>mfail_at x hx h)
 have hl0:Hid (0<l.length):=hl
 have hpa:=rt_all hp;have hqa:=rt_all hq
 have HAP:Hid (ap 5 [p,q] S n=lift (rk 5 p q) S n):=by show _=_;rfl
 have HSP:=qq (fun w1 (h:Mac w0 A c E b l S n 0 ov w1)=>mspots_div p.x p.y q.x q.y hpa.2.2.1 hqa.2.2.1 h hl)
 have HTW:Hid (∀ w1,Mac w0 A c E b l S n 0 ov w1→Calls Tryz.prog 153 #[.pointer (some ⟨b,0,none⟩),.string ⟨#[100,105,118]⟩,.int .i64 p.n,.int .i64 q.n] w1 (Rn (lift (nums 5 p.n q.n) S n) w0 A c E b l ov w1)):=by
  intro w1 h
  by_cases h0:q.n=0
  · rw [h0];exact mtwo_div0 p.n h hl
  · exact mtwo_div p.n q.n hpa.1 hqa.1 h0 h hl
 have HAR:=qq (fun w1 (h1:Vs w1 L [p,q]) K (hq:Blk w1 K (kcl [0,0])) (h:Mac w0 A c E b l S n 0 ov w1)=>(mare_any (cl:=cap) (ck:=2) (by decide) (Nat.le_refl 2) (by show 2≤3;decide) h1 hq h:Calls Tryz.prog 152 #[.pointer (some ⟨b,0,none⟩),.slice (some ⟨L,0,none⟩) 2 cap,.slice (some ⟨K,0,none⟩) 2 2] w1 (Ar (fits [0,0] [p,q]) w0 A c E b l S n ov w1)))
 clear hpa hqa hp hq
 by_cases h2:p.k=2∧q.k=2
 · have h3:(p.k == 2)=true:=by simpa using h2.1
   have h4:(q.k == 2)=true:=by simpa using h2.2
   have HRK:Hid (rk 5 p q=spots 5 ⟨p.x,p.y⟩ ⟨q.x,q.y⟩):=rk_pt (h2.1.trans h2.2.symm) h2.1
   clear h2
   obtain ⟨l0,l1,l2,l3,l4,hLlt⟩:=hv.p1
   obtain ⟨l5,l6,l7,l8,l9⟩:=hv.p2
   obtain ⟨w1,hw1,hd1,hm1,hbel,hsz,hbX,hbA,hbB⟩:=mbox3 hd hl 28 zz 28 p 28 q
   have HD1:=qq hd1;have HM1:=qq hm1;have HW1:=qq hw1;have HX1:=qq hbX;have HA1:=qq hbA;have HB1:=qq hbB
   have HL1:=qq (hv.next hbel);clear hv
   clear hd hd1 hm1 hbel hsz hw1 hbX hbA hbB
   go_enter Tryz.func114,Tryz.ntmps114
   go_wp2_with fail
   rw [HW1.out]
   clear l0 l1 l2 l3 l4 l5 l6 l7 l8 l9 hLlt 
   refine (HSP.out _ HD1.out).mono ?_
   rintro e w2 ⟨u,x,S1,n1,ov1,rfl,hans,hz,hd3,hm3⟩
   have HA:=qq hans;have HZ:=qq hz;have HD2:=qq hd3;have HM2:=qq (HM1.out.trans hm3);have HX2:=qq (HX1.out.mv hm3)
   clear hans hz hd3 hm3 HD1 HM1 HX1 HA1 HB1  HL1
   obtain ⟨cX0,cX1,cX2,cX3,cX4,zX0,zX1,zX2,zX3,zX4,hltX⟩:=HX2.out.five
   go_wp2_with fail
   refine mend (P:=bodyPost _ _ _ _ _) HD2.out HM2.out HX2.out (by omega) _ _ _ _ _ ?_
   clear HD2 HM2 HX2 cX0 cX1 cX2 cX3 cX4 zX0 zX1 zX2 zX3 zX4
   intro w9 hd9 hm9 c0 c1 c2 c3 c4
   refine bodyPost_ret (v:=.agg u) (by simp [results,Tryz.results114,go_sem,c0,c1,c2,c3,c4]) rfl ⟨u,x,S1,n1,ov1,rfl,by rw [HAP.out,HRK.out];exact HA.out,HZ.out,hd9,hm9⟩
 · have HH2:=qq h2
   have hcs:((p.k == 2)=false)∨((p.k == 2)=true∧(q.k == 2)=false):=by
    by_cases h:p.k=2
    · exact .inr ⟨by simpa using h,by simpa using fun e=>h2 ⟨h,e⟩⟩
    · exact .inl (by simpa using h)
   clear h2
   rcases hcs with h3 | ⟨h3,h4⟩
   all_goals
    obtain ⟨l0,l1,l2,l3,l4,hLlt⟩:=hv.p1
    obtain ⟨l5,l6,l7,l8,l9⟩:=hv.p2
    obtain ⟨w1,hw1,hd1,hm1,hbel,hsz,hbX,hbA,hbB⟩:=mbox3 hd hl 28 zz 28 p 28 q
    have HD1:=qq hd1;have HM1:=qq hm1;have HW1:=qq hw1;have HX1:=qq hbX;have HA1:=qq hbA;have HB1:=qq hbB
    have HL1:=qq (hv.next hbel);clear hv
    have HSZ1:=qq hsz
    clear hd hd1 hm1 hbel hsz hw1 hbX hbA hbB
    go_enter Tryz.func114,Tryz.ntmps114
    go_wp2_with fail
    rw [HW1.out]
    clear l0 l1 l2 l3 l4 l5 l6 l7 l8 l9 hLlt 
    have hbK:=Box.makeM HD1.out hl0.out 3 [.int .i64 0,.int .i64 0]
    have hb:=box1 w1 (.cells #[.int .i64 0,.int .i64 0] 3)
    obtain ⟨w2,hw2⟩:∃ w2,w1.alloc (.cells #[.int .i64 0,.int .i64 0] 3)=w2:=⟨_,rfl⟩
    rw [show w1.alloc (.cells [.int .i64 0,.int .i64 0].toArray 3)=w2 from hw2] at hbK
    rw [hw2] at hb
    rw [HSZ1.out] at hbK
    have HW2:=qq hw2;have HK2:=qq hbK
    clear hw2 hbK
    have HD2:=qq (HD1.out.old hb)
    have HM2:=qq (HM1.out.old hb)
    have HX2:=qq (HX1.out.old hb)
    have HA2:=qq (HA1.out.old hb)
    have HB2:=qq (HB1.out.old hb)
    clear hb HD1 HM1 HX1 HA1 HB1  
    have HL2:=qq (HL1.out.next (show Below w1.heap.size w1 w2 by rw [← HW2.out];exact box1 _ _));clear HL1
    rw [HW2.out]
    clear HW2
    refine (HAR.out _ HL2.out _ HK2.out.blk HD2.out).mono ?_
    rintro e w3 ⟨rfl,hd2,hm2,hbl2⟩
    clear HK2
    rcases Bool.eq_false_or_eq_true (fits [0,0] [p,q]) with hf | hf
    · have HAQ:Hid (ap 5 [p,q] S n=lift (nums 5 p.n q.n) S n):=by show _=_;rw [HAP.out,rk_fits hf]
      have HD3:=qq (show Mac w0 A c E b l S n 0 ov w3 by rw [hf] at hd2;exact hd2);have HM3:=qq (HM2.out.trans hm2);have HX3:=qq (HX2.out.mv hm2);have HA3:=qq (HA2.out.mv hm2);have HB3:=qq (HB2.out.mv hm2);have HL3:=qq (HL2.out.next (hbl2 hf))
      rw [hf]
      clear hd2 hm2 hbl2 hf HD2 HM2 HX2 HA2 HB2 HL2 
      have qA1:=HA3.out.blk.c 1 _ rfl
      have qB1:=HB3.out.blk.c 1 _ rfl
      go_wp2_with fail
      refine (HTW.out _ HD3.out).mono ?_
      rintro e w4 ⟨u,x,S1,n1,ov1,rfl,hans,hz,hd3,hm3⟩
      have HA:=qq hans;have HZ:=qq hz;have HD4:=qq hd3;have HM4:=qq (HM3.out.trans hm3);have HX4:=qq (HX3.out.mv hm3)
      clear hans hz hd3 hm3 HD3 HM3 HX3 HA3 HB3 qA1 qB1 HL3
      obtain ⟨cX0,cX1,cX2,cX3,cX4,zX0,zX1,zX2,zX3,zX4,hltX⟩:=HX4.out.five
      go_wp2_with fail
      refine mend (P:=bodyPost _ _ _ _ _) HD4.out HM4.out HX4.out (by omega) _ _ _ _ _ ?_
      clear HD4 HM4 HX4 cX0 cX1 cX2 cX3 cX4 zX0 zX1 zX2 zX3 zX4
      intro w9 hd9 hm9 c0 c1 c2 c3 c4
      refine bodyPost_ret (v:=.agg u) (by simp [results,Tryz.results114,go_sem,c0,c1,c2,c3,c4]) rfl ⟨u,x,S1,n1,ov1,rfl,by rw [HAQ.out];exact HA.out,HZ.out,hd9,hm9⟩
    · have HAQ:Hid (ap 5 [p,q] S n=.er 13):=by show _=_;rw [HAP.out,rk_bad hf HH2.out];rfl
      have HD3:=qq (show Mac w0 A c E b l S n 13 ov w3 by rw [hf] at hd2;exact hd2);have HM3:=qq (HM2.out.trans hm2);have HX3:=qq (HX2.out.mv hm2)
      rw [hf]
      clear hd2 hm2 hbl2 hf HD2 HM2 HX2 HA2 HB2 HL2 
      obtain ⟨cX0,cX1,cX2,cX3,cX4,zX0,zX1,zX2,zX3,zX4,hltX⟩:=HX3.out.five
      go_wp2_with fail
      refine mend (P:=bodyPost _ _ _ _ _) HD3.out HM3.out HX3.out (by omega) _ _ _ _ _ ?_
      clear HD3 HM3 HX3 cX0 cX1 cX2 cX3 cX4 zX0 zX1 zX2 zX3 zX4
      intro w9 hd9 hm9 c0 c1 c2 c3 c4
      refine bodyPost_ret (v:=.agg zz) (by simp [results,Tryz.results114,go_sem,c0,c1,c2,c3,c4]) rfl ⟨vz,13,S,n,ov,rfl,Ans.er HAQ.out rfl (by decide),fun _=>rfl,hd9,hm9⟩
theorem map_mod {w0:World} {A:Option Addr} {c E b n:Nat} {l:List No} {S:St} {ov:Value} {w:World} {L cap:Nat} (p q:Va) (hp:rt p=true) (hq:rt q=true) (hv:Vs w L [p,q]) (hd:Mac w0 A c E b l S n 0 ov w) (hl:0<l.length):Calls Tryz.prog 114 #[.pointer (some ⟨b,0,none⟩),.string ⟨#[109,111,100]⟩,.slice (some ⟨L,0,none⟩) 2 cap] w (Rn (ap 6 [p,q] S n) w0 A c E b l ov w):=by
 have HRI:=qq (fun (v:Va) w1 (h:Mac w0 A c E b l S n 0 ov w1)=>mright_any v h hl)
 have HF:=qq (fun (x:Int) (hx:x ≠ 0) w1 (h:Mac w0 A c E b l S n 0 ov w1)=>mfail_at x hx h)
 have hl0:Hid (0<l.length):=hl
 have hpa:=rt_all hp;have hqa:=rt_all hq
 have HAP:Hid (ap 6 [p,q] S n=lift (rk 6 p q) S n):=by show _=_;rfl
 have HSP:=qq (fun w1 (h:Mac w0 A c E b l S n 0 ov w1)=>mspots_mod p.x p.y q.x q.y hpa.2.2.1 hqa.2.2.1 h hl)
 have HTW:Hid (∀ w1,Mac w0 A c E b l S n 0 ov w1→Calls Tryz.prog 153 #[.pointer (some ⟨b,0,none⟩),.string ⟨#[109,111,100]⟩,.int .i64 p.n,.int .i64 q.n] w1 (Rn (lift (nums 6 p.n q.n) S n) w0 A c E b l ov w1)):=by
  intro w1 h
  by_cases h0:q.n=0
  · rw [h0];exact mtwo_mod0 p.n h hl
  · exact mtwo_mod p.n q.n hpa.1 hqa.1 h0 h hl
 have HAR:=qq (fun w1 (h1:Vs w1 L [p,q]) K (hq:Blk w1 K (kcl [0,0])) (h:Mac w0 A c E b l S n 0 ov w1)=>(mare_any (cl:=cap) (ck:=2) (by decide) (Nat.le_refl 2) (by show 2≤3;decide) h1 hq h:Calls Tryz.prog 152 #[.pointer (some ⟨b,0,none⟩),.slice (some ⟨L,0,none⟩) 2 cap,.slice (some ⟨K,0,none⟩) 2 2] w1 (Ar (fits [0,0] [p,q]) w0 A c E b l S n ov w1)))
 clear hpa hqa hp hq
 by_cases h2:p.k=2∧q.k=2
 · have h3:(p.k == 2)=true:=by simpa using h2.1
   have h4:(q.k == 2)=true:=by simpa using h2.2
   have HRK:Hid (rk 6 p q=spots 6 ⟨p.x,p.y⟩ ⟨q.x,q.y⟩):=rk_pt (h2.1.trans h2.2.symm) h2.1
   clear h2
   obtain ⟨l0,l1,l2,l3,l4,hLlt⟩:=hv.p1
   obtain ⟨l5,l6,l7,l8,l9⟩:=hv.p2
   obtain ⟨w1,hw1,hd1,hm1,hbel,hsz,hbX,hbA,hbB⟩:=mbox3 hd hl 28 zz 28 p 28 q
   have HD1:=qq hd1;have HM1:=qq hm1;have HW1:=qq hw1;have HX1:=qq hbX;have HA1:=qq hbA;have HB1:=qq hbB
   have HL1:=qq (hv.next hbel);clear hv
   clear hd hd1 hm1 hbel hsz hw1 hbX hbA hbB
   go_enter Tryz.func114,Tryz.ntmps114
   go_wp2_with fail
   rw [HW1.out]
   clear l0 l1 l2 l3 l4 l5 l6 l7 l8 l9 hLlt 
   refine (HSP.out _ HD1.out).mono ?_
   rintro e w2 ⟨u,x,S1,n1,ov1,rfl,hans,hz,hd3,hm3⟩
   have HA:=qq hans;have HZ:=qq hz;have HD2:=qq hd3;have HM2:=qq (HM1.out.trans hm3);have HX2:=qq (HX1.out.mv hm3)
   clear hans hz hd3 hm3 HD1 HM1 HX1 HA1 HB1  HL1
   obtain ⟨cX0,cX1,cX2,cX3,cX4,zX0,zX1,zX2,zX3,zX4,hltX⟩:=HX2.out.five
   go_wp2_with fail
   refine mend (P:=bodyPost _ _ _ _ _) HD2.out HM2.out HX2.out (by omega) _ _ _ _ _ ?_
   clear HD2 HM2 HX2 cX0 cX1 cX2 cX3 cX4 zX0 zX1 zX2 zX3 zX4
   intro w9 hd9 hm9 c0 c1 c2 c3 c4
   refine bodyPost_ret (v:=.agg u) (by simp [results,Tryz.results114,go_sem,c0,c1,c2,c3,c4]) rfl ⟨u,x,S1,n1,ov1,rfl,by rw [HAP.out,HRK.out];exact HA.out,HZ.out,hd9,hm9⟩
 · have HH2:=qq h2
   have hcs:((p.k == 2)=false)∨((p.k == 2)=true∧(q.k == 2)=false):=by
    by_cases h:p.k=2
    · exact .inr ⟨by simpa using h,by simpa using fun e=>h2 ⟨h,e⟩⟩
    · exact .inl (by simpa using h)
   clear h2
   rcases hcs with h3 | ⟨h3,h4⟩
   all_goals
    obtain ⟨l0,l1,l2,l3,l4,hLlt⟩:=hv.p1
    obtain ⟨l5,l6,l7,l8,l9⟩:=hv.p2
    obtain ⟨w1,hw1,hd1,hm1,hbel,hsz,hbX,hbA,hbB⟩:=mbox3 hd hl 28 zz 28 p 28 q
    have HD1:=qq hd1;have HM1:=qq hm1;have HW1:=qq hw1;have HX1:=qq hbX;have HA1:=qq hbA;have HB1:=qq hbB
    have HL1:=qq (hv.next hbel);clear hv
    have HSZ1:=qq hsz
    clear hd hd1 hm1 hbel hsz hw1 hbX hbA hbB
    go_enter Tryz.func114,Tryz.ntmps114
    go_wp2_with fail
    rw [HW1.out]
    clear l0 l1 l2 l3 l4 l5 l6 l7 l8 l9 hLlt 
    have hbK:=Box.makeM HD1.out hl0.out 3 [.int .i64 0,.int .i64 0]
    have hb:=box1 w1 (.cells #[.int .i64 0,.int .i64 0] 3)
    obtain ⟨w2,hw2⟩:∃ w2,w1.alloc (.cells #[.int .i64 0,.int .i64 0] 3)=w2:=⟨_,rfl⟩
    rw [show w1.alloc (.cells [.int .i64 0,.int .i64 0].toArray 3)=w2 from hw2] at hbK
    rw [hw2] at hb
    rw [HSZ1.out] at hbK
    have HW2:=qq hw2;have HK2:=qq hbK
    clear hw2 hbK
    have HD2:=qq (HD1.out.old hb)
    have HM2:=qq (HM1.out.old hb)
    have HX2:=qq (HX1.out.old hb)
    have HA2:=qq (HA1.out.old hb)
    have HB2:=qq (HB1.out.old hb)
    clear hb HD1 HM1 HX1 HA1 HB1  
    have HL2:=qq (HL1.out.next (show Below w1.heap.size w1 w2 by rw [← HW2.out];exact box1 _ _));clear HL1
    rw [HW2.out]
    clear HW2
    refine (HAR.out _ HL2.out _ HK2.out.blk HD2.out).mono ?_
    rintro e w3 ⟨rfl,hd2,hm2,hbl2⟩
    clear HK2
    rcases Bool.eq_false_or_eq_true (fits [0,0] [p,q]) with hf | hf
    · have HAQ:Hid (ap 6 [p,q] S n=lift (nums 6 p.n q.n) S n):=by show _=_;rw [HAP.out,rk_fits hf]
      have HD3:=qq (show Mac w0 A c E b l S n 0 ov w3 by rw [hf] at hd2;exact hd2);have HM3:=qq (HM2.out.trans hm2);have HX3:=qq (HX2.out.mv hm2);have HA3:=qq (HA2.out.mv hm2);have HB3:=qq (HB2.out.mv hm2);have HL3:=qq (HL2.out.next (hbl2 hf))
      rw [hf]
      clear hd2 hm2 hbl2 hf HD2 HM2 HX2 HA2 HB2 HL2 
      have qA1:=HA3.out.blk.c 1 _ rfl
      have qB1:=HB3.out.blk.c 1 _ rfl
      go_wp2_with fail
      refine (HTW.out _ HD3.out).mono ?_
      rintro e w4 ⟨u,x,S1,n1,ov1,rfl,hans,hz,hd3,hm3⟩
      have HA:=qq hans;have HZ:=qq hz;have HD4:=qq hd3;have HM4:=qq (HM3.out.trans hm3);have HX4:=qq (HX3.out.mv hm3)
      clear hans hz hd3 hm3 HD3 HM3 HX3 HA3 HB3 qA1 qB1 HL3
      obtain ⟨cX0,cX1,cX2,cX3,cX4,zX0,zX1,zX2,zX3,zX4,hltX⟩:=HX4.out.five
      go_wp2_with fail
      refine mend (P:=bodyPost _ _ _ _ _) HD4.out HM4.out HX4.out (by omega) _ _ _ _ _ ?_
      clear HD4 HM4 HX4 cX0 cX1 cX2 cX3 cX4 zX0 zX1 zX2 zX3 zX4
      intro w9 hd9 hm9 c0 c1 c2 c3 c4
      refine bodyPost_ret (v:=.agg u) (by simp [results,Tryz.results114,go_sem,c0,c1,c2,c3,c4]) rfl ⟨u,x,S1,n1,ov1,rfl,by rw [HAQ.out];exact HA.out,HZ.out,hd9,hm9⟩
    · have HAQ:Hid (ap 6 [p,q] S n=.er 13):=by show _=_;rw [HAP.out,rk_bad hf HH2.out];rfl
      have HD3:=qq (show Mac w0 A c E b l S n 13 ov w3 by rw [hf] at hd2;exact hd2);have HM3:=qq (HM2.out.trans hm2);have HX3:=qq (HX2.out.mv hm2)
      rw [hf]
      clear hd2 hm2 hbl2 hf HD2 HM2 HX2 HA2 HB2 HL2 
      obtain ⟨cX0,cX1,cX2,cX3,cX4,zX0,zX1,zX2,zX3,zX4,hltX⟩:=HX3.out.five
      go_wp2_with fail
      refine mend (P:=bodyPost _ _ _ _ _) HD3.out HM3.out HX3.out (by omega) _ _ _ _ _ ?_
      clear HD3 HM3 HX3 cX0 cX1 cX2 cX3 cX4 zX0 zX1 zX2 zX3 zX4
      intro w9 hd9 hm9 c0 c1 c2 c3 c4
      refine bodyPost_ret (v:=.agg zz) (by simp [results,Tryz.results114,go_sem,c0,c1,c2,c3,c4]) rfl ⟨vz,13,S,n,ov,rfl,Ans.er HAQ.out rfl (by decide),fun _=>rfl,hd9,hm9⟩
end Go.Proofs.YtgakcpcpfkoaiaaGreatDoor.Ev
