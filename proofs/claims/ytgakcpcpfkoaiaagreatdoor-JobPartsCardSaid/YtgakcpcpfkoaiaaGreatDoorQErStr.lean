/-
  A text of this claim: ErStr.
-/
import Derived.Test.YtgakcpcpfkoaiaaGreatDoorQ1
import Derived.Test.YtgakcpcpfkoaiaaGreatDoorQ7
import Derived.Test.YtgakcpcpfkoaiaaGreatDoorQ4
import Derived.Test.YtgakcpcpfkoaiaaGreatDoorQEvDeed5
import Derived.Deep.Cut
import Derived.Test.YtgakcpcpfkoaiaaGreatDoorQ2
set_option maxHeartbeats 4000000
set_option maxRecDepth 100000
namespace Go.Proofs.YtgakcpcpfkoaiaaGreatDoor.Ev
open Go.ChangeShapes Go.WideShapes Go.ChangeAt Go.RowKit Ov Va Ga Ex
theorem mstr_cat {w0:World} {A:Option Addr} {c E b n:Nat} {l:List No} {S:St} {ov:Value} {w:World} {L cap:Nat} (p q:Va) (hp:rt p=true) (hq:rt q=true) (hv:Vs w L [p,q]) (hd:Mac w0 A c E b l S n 0 ov w) (hl:0<l.length):Calls Tryz.prog 157 #[.pointer (some ⟨b,0,none⟩),.string ⟨#[99,97,116]⟩,.slice (some ⟨L,0,none⟩) 2 cap] w (Rn (ap 14 [p,q] S n) w0 A c E b l ov w):=by
 have HF:=qq (fun (x:Int) (hx:x ≠ 0) w1 (h:Mac w0 A c E b l S n 0 ov w1)=>mfail_at x hx h)
 have HAR:=qq (fun w1 (h1:Vs w1 L [p,q]) K (hq:Blk w1 K (kcl [1,1])) (h:Mac w0 A c E b l S n 0 ov w1)=>(mare_any (cl:=cap) (ck:=2) (by decide) (Nat.le_refl 2) (by show 2≤3;decide) h1 hq h:Calls Tryz.prog 152 #[.pointer (some ⟨b,0,none⟩),.slice (some ⟨L,0,none⟩) 2 cap,.slice (some ⟨K,0,none⟩) 2 2] w1 (Ar (fits [1,1] [p,q]) w0 A c E b l S n ov w1)))
 have hsp:=(rt_all hp).2.1
 have hsq:=(rt_all hq).2.1
 have HRT:=qq hp;clear hp hq
 obtain ⟨w1,hw1,hd1,hm1,hbel,hsz,hbX,hbKa,hbKb⟩:=mbox3 hd hl 28 zz 3 [.int .i64 1] 3 [.int .i64 1,.int .i64 1]
 have HD1:=qq hd1;have HM1:=qq hm1;have HW1:=qq hw1;have HX1:=qq hbX;have HKa1:=qq hbKa;have HKb1:=qq hbKb
 have HL1:=qq (hv.next hbel);clear hv
 clear hd hd1 hm1 hbel hsz hw1 hbX hbKa hbKb
 go_enter Tryz.func157,Tryz.ntmps157
 go_wp2_with fail
 rw [HW1.out]
 refine (HAR.out _ HL1.out _ HKb1.out.blk HD1.out).mono ?_
 rintro e w2 ⟨rfl,hd2,hm2,hbl2⟩
 rcases Bool.eq_false_or_eq_true (fits [1,1] [p,q]) with hf | hf
 · have HAP:Hid (ap 14 [p,q] S n=af 14 [p,q] S n):=ap_af (o:=14) (l:=[p,q]) hf S n
   have HD2:=qq (show Mac w0 A c E b l S n 0 ov w2 by rw [hf] at hd2;exact hd2);have HM2:=qq (HM1.out.trans hm2);have HX2:=qq (HX1.out.mv hm2);have HL2:=qq (HL1.out.next (hbl2 hf))
   obtain ⟨hk0,hk1⟩:=fits_2 hf
   rw [hf]
   clear hd2 hm2 hbl2 hf HD1 HM1 HX1 HKa1 HKb1 HL1 
   have hts:=tx_size p.s
   have htq:=tx_size q.s
   have l2:w2.cell? ⟨L,2,none⟩=some (.string (tx p.s)):=HL2.out 0 2 _ (by show 0<2;decide) rfl
   have l7:w2.cell? ⟨L,7,none⟩=some (.string (tx q.s)):=HL2.out 1 2 _ (by show 1<2;decide) rfl
   by_cases hbig:4096<p.s.length+q.s.length
   · have HB:=qq hbig
     go_wp2_with fail
     refine (HF.out 3 (by decide) _ HD2.out).mono ?_
     rintro e w3 ⟨rfl,hd3,hm3⟩
     have HD3:=qq hd3;have HM3:=qq (HM2.out.trans hm3);have HX3:=qq (HX2.out.mv hm3)
     clear hd3 hm3 HD2 HM2 HX2 l2 l7 HL2
     obtain ⟨cX0,cX1,cX2,cX3,cX4,zX0,zX1,zX2,zX3,zX4,hltX⟩:=HX3.out.five
     go_wp2_with fail
     refine mend (P:=bodyPost _ _ _ _ _) HD3.out HM3.out HX3.out (by omega) _ _ _ _ _ ?_
     clear HD3 HM3 HX3 cX0 cX1 cX2 cX3 cX4 zX0 zX1 zX2 zX3 zX4
     intro w9 hd9 hm9 c0 c1 c2 c3 c4
     refine bodyPost_ret (v:=.agg zz) (by simp [results,Tryz.results157,go_sem,c0,c1,c2,c3,c4]) rfl ⟨vz,3,S,n,ov,rfl,by rw [HAP.out,cat_big (l:=[p,q]) HB.out];exact Ans.er rfl rfl (by decide),fun _=>rfl,hd9,hm9⟩
   · have HB:=qq hbig
     go_wp2_with fail
     refine (mtext_any _ _).mono ?_
     rintro e w3 ⟨rfl,hb⟩
     have HD3:=qq (HD2.out.old hb)
     have HM3:=qq (HM2.out.old hb)
     have HX3:=qq (HX2.out.old hb)
     clear hb HD2 HM2 HX2 l2 l7 HL2
     obtain ⟨cX0,cX1,cX2,cX3,cX4,zX0,zX1,zX2,zX3,zX4,hltX⟩:=HX3.out.five
     go_wp2_with fail
     refine mend (P:=bodyPost _ _ _ _ _) HD3.out HM3.out HX3.out (by omega) _ _ _ _ _ ?_
     clear HD3 HM3 HX3 cX0 cX1 cX2 cX3 cX4 zX0 zX1 zX2 zX3 zX4
     intro w9 hd9 hm9 c0 c1 c2 c3 c4
     refine bodyPost_ret (v:=.agg #[.int .i64 1,.int .i64 0,.string (tx p.s++tx q.s),.int .i64 0,.int .i64 0]) (by simp [results,Tryz.results157,go_sem,c0,c1,c2,c3,c4]) rfl ⟨tv (p.s++q.s),0,S,n,ov,by rw [tx_append];rfl,Ans.ok (by rw [HAP.out];exact cat_ok (l:=[p,q]) HB.out _ _) rfl,fun h=>absurd rfl h,hd9,hm9⟩
 · have HAP:=qq (ap_no (o:=14) (l:=[p,q]) hf S n)
   have HD2:=qq (show Mac w0 A c E b l S n 13 ov w2 by rw [hf] at hd2;exact hd2);have HM2:=qq (HM1.out.trans hm2);have HX2:=qq (HX1.out.mv hm2)
   rw [hf]
   clear hd2 hm2 hbl2 hf HD1 HM1 HX1 HKa1 HKb1 HL1 
   obtain ⟨cX0,cX1,cX2,cX3,cX4,zX0,zX1,zX2,zX3,zX4,hltX⟩:=HX2.out.five
   go_wp2_with fail
   refine mend (P:=bodyPost _ _ _ _ _) HD2.out HM2.out HX2.out (by omega) _ _ _ _ _ ?_
   clear HD2 HM2 HX2 cX0 cX1 cX2 cX3 cX4 zX0 zX1 zX2 zX3 zX4
   intro w9 hd9 hm9 c0 c1 c2 c3 c4
   refine bodyPost_ret (v:=.agg zz) (by simp [results,Tryz.results157,go_sem,c0,c1,c2,c3,c4]) rfl ⟨vz,13,S,n,ov,rfl,Ans.er HAP.out rfl (by decide),fun _=>rfl,hd9,hm9⟩
theorem mstr_len {w0:World} {A:Option Addr} {c E b n:Nat} {l:List No} {S:St} {ov:Value} {w:World} {L cap:Nat} (p:Va) (hp:rt p=true) (hv:Vs w L [p]) (hd:Mac w0 A c E b l S n 0 ov w) (hl:0<l.length):Calls Tryz.prog 157 #[.pointer (some ⟨b,0,none⟩),.string ⟨#[108,101,110]⟩,.slice (some ⟨L,0,none⟩) 1 cap] w (Rn (ap 15 [p] S n) w0 A c E b l ov w):=by
 have HF:=qq (fun (x:Int) (hx:x ≠ 0) w1 (h:Mac w0 A c E b l S n 0 ov w1)=>mfail_at x hx h)
 have HAR:=qq (fun w1 (h1:Vs w1 L [p]) K (hq:Blk w1 K (kcl [1])) (h:Mac w0 A c E b l S n 0 ov w1)=>(mare_any (cl:=cap) (ck:=1) (by decide) (Nat.le_refl 1) (by show 1≤3;decide) h1 hq h:Calls Tryz.prog 152 #[.pointer (some ⟨b,0,none⟩),.slice (some ⟨L,0,none⟩) 1 cap,.slice (some ⟨K,0,none⟩) 1 1] w1 (Ar (fits [1] [p]) w0 A c E b l S n ov w1)))
 have hsp:=(rt_all hp).2.1
 have HRT:=qq hp;clear hp 
 obtain ⟨w1,hw1,hd1,hm1,hbel,hsz,hbX,hbKa⟩:=mbox2 hd hl 28 zz 3 [.int .i64 1]
 have HD1:=qq hd1;have HM1:=qq hm1;have HW1:=qq hw1;have HX1:=qq hbX;have HKa1:=qq hbKa
 have HL1:=qq (hv.next hbel);clear hv
 clear hd hd1 hm1 hbel hsz hw1 hbX hbKa
 go_enter Tryz.func157,Tryz.ntmps157
 go_wp2_with fail
 rw [HW1.out]
 refine (HAR.out _ HL1.out _ HKa1.out.blk HD1.out).mono ?_
 rintro e w2 ⟨rfl,hd2,hm2,hbl2⟩
 rcases Bool.eq_false_or_eq_true (fits [1] [p]) with hf | hf
 · have HAP:Hid (ap 15 [p] S n=af 15 [p] S n):=ap_af (o:=15) (l:=[p]) hf S n
   have HD2:=qq (show Mac w0 A c E b l S n 0 ov w2 by rw [hf] at hd2;exact hd2);have HM2:=qq (HM1.out.trans hm2);have HX2:=qq (HX1.out.mv hm2);have HL2:=qq (HL1.out.next (hbl2 hf))
   have hk0:=fits_1 hf
   rw [hf]
   clear hd2 hm2 hbl2 hf HD1 HM1 HX1 HKa1 HL1 
   have hts:=tx_size p.s
   have l2:w2.cell? ⟨L,2,none⟩=some (.string (tx p.s)):=HL2.out 0 2 _ (by show 0<1;decide) rfl
   go_wp2_with fail
   refine (mnum_any _ _).mono ?_
   rintro e w3 ⟨rfl,hb⟩
   have HD3:=qq (HD2.out.old hb)
   have HM3:=qq (HM2.out.old hb)
   have HX3:=qq (HX2.out.old hb)
   clear hb HD2 HM2 HX2 l2 HL2
   obtain ⟨cX0,cX1,cX2,cX3,cX4,zX0,zX1,zX2,zX3,zX4,hltX⟩:=HX3.out.five
   go_wp2_with fail
   refine mend (P:=bodyPost _ _ _ _ _) HD3.out HM3.out HX3.out (by omega) _ _ _ _ _ ?_
   clear HD3 HM3 HX3 cX0 cX1 cX2 cX3 cX4 zX0 zX1 zX2 zX3 zX4
   intro w9 hd9 hm9 c0 c1 c2 c3 c4
   refine bodyPost_ret (v:=.agg #[.int .i64 0,.int .i64 ((p.s.length:Int)),.string ⟨#[]⟩,.int .i64 0,.int .i64 0]) (by simp [results,Tryz.results157,go_sem,c0,c1,c2,c3,c4]) rfl ⟨nv p.s.length,0,S,n,ov,rfl,Ans.ok (by rw [HAP.out];exact rfl) rfl,fun h=>absurd rfl h,hd9,hm9⟩
 · have HAP:=qq (ap_no (o:=15) (l:=[p]) hf S n)
   have HD2:=qq (show Mac w0 A c E b l S n 13 ov w2 by rw [hf] at hd2;exact hd2);have HM2:=qq (HM1.out.trans hm2);have HX2:=qq (HX1.out.mv hm2)
   rw [hf]
   clear hd2 hm2 hbl2 hf HD1 HM1 HX1 HKa1 HL1 
   obtain ⟨cX0,cX1,cX2,cX3,cX4,zX0,zX1,zX2,zX3,zX4,hltX⟩:=HX2.out.five
   go_wp2_with fail
   refine mend (P:=bodyPost _ _ _ _ _) HD2.out HM2.out HX2.out (by omega) _ _ _ _ _ ?_
   clear HD2 HM2 HX2 cX0 cX1 cX2 cX3 cX4 zX0 zX1 zX2 zX3 zX4
   intro w9 hd9 hm9 c0 c1 c2 c3 c4
   refine bodyPost_ret (v:=.agg zz) (by simp [results,Tryz.results157,go_sem,c0,c1,c2,c3,c4]) rfl ⟨vz,13,S,n,ov,rfl,Ans.er HAP.out rfl (by decide),fun _=>rfl,hd9,hm9⟩
theorem mstr_words {w0:World} {A:Option Addr} {c E b n:Nat} {l:List No} {S:St} {ov:Value} {w:World} {L cap:Nat} (p:Va) (hp:rt p=true) (hv:Vs w L [p]) (hd:Mac w0 A c E b l S n 0 ov w) (hl:0<l.length):Calls Tryz.prog 157 #[.pointer (some ⟨b,0,none⟩),.string ⟨#[119,111,114,100,115]⟩,.slice (some ⟨L,0,none⟩) 1 cap] w (Rn (ap 18 [p] S n) w0 A c E b l ov w):=by
 have HF:=qq (fun (x:Int) (hx:x ≠ 0) w1 (h:Mac w0 A c E b l S n 0 ov w1)=>mfail_at x hx h)
 have HAR:=qq (fun w1 (h1:Vs w1 L [p]) K (hq:Blk w1 K (kcl [1])) (h:Mac w0 A c E b l S n 0 ov w1)=>(mare_any (cl:=cap) (ck:=1) (by decide) (Nat.le_refl 1) (by show 1≤3;decide) h1 hq h:Calls Tryz.prog 152 #[.pointer (some ⟨b,0,none⟩),.slice (some ⟨L,0,none⟩) 1 cap,.slice (some ⟨K,0,none⟩) 1 1] w1 (Ar (fits [1] [p]) w0 A c E b l S n ov w1)))
 have hsp:=(rt_all hp).2.1
 have HRT:=qq hp;clear hp 
 obtain ⟨w1,hw1,hd1,hm1,hbel,hsz,hbX,hbKa⟩:=mbox2 hd hl 28 zz 3 [.int .i64 1]
 have HD1:=qq hd1;have HM1:=qq hm1;have HW1:=qq hw1;have HX1:=qq hbX;have HKa1:=qq hbKa
 have HL1:=qq (hv.next hbel);clear hv
 clear hd hd1 hm1 hbel hsz hw1 hbX hbKa
 go_enter Tryz.func157,Tryz.ntmps157
 go_wp2_with fail
 rw [HW1.out]
 refine (HAR.out _ HL1.out _ HKa1.out.blk HD1.out).mono ?_
 rintro e w2 ⟨rfl,hd2,hm2,hbl2⟩
 rcases Bool.eq_false_or_eq_true (fits [1] [p]) with hf | hf
 · have HAP:Hid (ap 18 [p] S n=af 18 [p] S n):=ap_af (o:=18) (l:=[p]) hf S n
   have HD2:=qq (show Mac w0 A c E b l S n 0 ov w2 by rw [hf] at hd2;exact hd2);have HM2:=qq (HM1.out.trans hm2);have HX2:=qq (HX1.out.mv hm2);have HL2:=qq (HL1.out.next (hbl2 hf))
   have hk0:=fits_1 hf
   rw [hf]
   clear hd2 hm2 hbl2 hf HD1 HM1 HX1 HKa1 HL1 
   have hts:=tx_size p.s
   have l2:w2.cell? ⟨L,2,none⟩=some (.string (tx p.s)):=HL2.out 0 2 _ (by show 0<1;decide) rfl
   have HWD:=qq (mwords_any (tx p.s) (by omega))
   rw [tx_list] at HWD
   go_wp2_with fail
   refine (HWD.out _).mono ?_
   rintro e w3 ⟨V,rfl,ho,hb⟩
   obtain ⟨Bp,cp,rfl⟩:=own_slice ho
   clear ho
   have HD3:=qq (HD2.out.old hb)
   have HM3:=qq (HM2.out.old hb)
   have HX3:=qq (HX2.out.old hb)
   clear hb HD2 HM2 HX2 l2 HL2
   go_wp2_with fail
   refine (mnum_any _ _).mono ?_
   rintro e w4 ⟨rfl,hb⟩
   have HD4:=qq (HD3.out.old hb)
   have HM4:=qq (HM3.out.old hb)
   have HX4:=qq (HX3.out.old hb)
   clear hb HD3 HM3 HX3  
   obtain ⟨cX0,cX1,cX2,cX3,cX4,zX0,zX1,zX2,zX3,zX4,hltX⟩:=HX4.out.five
   go_wp2_with fail
   refine mend (P:=bodyPost _ _ _ _ _) HD4.out HM4.out HX4.out (by omega) _ _ _ _ _ ?_
   clear HD4 HM4 HX4 cX0 cX1 cX2 cX3 cX4 zX0 zX1 zX2 zX3 zX4
   intro w9 hd9 hm9 c0 c1 c2 c3 c4
   refine bodyPost_ret (v:=.agg #[.int .i64 0,.int .i64 (((wds p.s).length:Int)),.string ⟨#[]⟩,.int .i64 0,.int .i64 0]) (by simp [results,Tryz.results157,go_sem,c0,c1,c2,c3,c4]) rfl ⟨nv (wds p.s).length,0,S,n,ov,rfl,Ans.ok (by rw [HAP.out];exact rfl) rfl,fun h=>absurd rfl h,hd9,hm9⟩
 · have HAP:=qq (ap_no (o:=18) (l:=[p]) hf S n)
   have HD2:=qq (show Mac w0 A c E b l S n 13 ov w2 by rw [hf] at hd2;exact hd2);have HM2:=qq (HM1.out.trans hm2);have HX2:=qq (HX1.out.mv hm2)
   rw [hf]
   clear hd2 hm2 hbl2 hf HD1 HM1 HX1 HKa1 HL1 
   obtain ⟨cX0,cX1,cX2,cX3,cX4,zX0,zX1,zX2,zX3,zX4,hltX⟩:=HX2.out.five
   go_wp2_with fail
   refine mend (P:=bodyPost _ _ _ _ _) HD2.out HM2.out HX2.out (by omega) _ _ _ _ _ ?_
   clear HD2 HM2 HX2 cX0 cX1 cX2 cX3 cX4 zX0 zX1 zX2 zX3 zX4
   intro w9 hd9 hm9 c0 c1 c2 c3 c4
   refine bodyPost_ret (v:=.agg zz) (by simp [results,Tryz.results157,go_sem,c0,c1,c2,c3,c4]) rfl ⟨vz,13,S,n,ov,rfl,Ans.er HAP.out rfl (by decide),fun _=>rfl,hd9,hm9⟩
end Go.Proofs.YtgakcpcpfkoaiaaGreatDoor.Ev
